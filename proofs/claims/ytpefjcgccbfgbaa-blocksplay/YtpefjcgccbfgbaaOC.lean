/-
  The law BlocksBack at this program: what was put is taken back by what was held, and what is refused changes nothing. Conditions: the arguments read as zones, ops and an op.
-/
import Derived.Test.YtpefjcgccbfgbaaOB
import Derived.Test.YtpefjcgccbfgbaaOD
import Derived.Deep.RegionHeld3
import Derived.Deep.RegionWith
import Derived.Deep.CutRange
import Derived.Deep.DeepCutAuto
import Derived.Deep.CutBlock
namespace Go.Proofs.Ytpefjcgccbfgbaa.Bk
open Go.RowKit

abbrev opV (q : Oq) : Value := .agg #[.int .i64 q.kd, .int .i64 q.pl, .string q.p, .string q.c, .int .i64 q.k, .int .i64 (q.s 0), .int .i64 (q.s 1), .int .i64 (q.s 2), .int .i64 (q.s 3), .int .i64 (q.s 4), .int .i64 (q.s 5), .int .i64 (q.s 6), .int .i64 (q.s 7)]
/-- A table behind the ops. -/
structure Aft (W : World) (b m n : Nat) (zs : List Zn) (ls : List Rw) : Prop where
  tb : Tb W b m zs ls
  ord : Ord zs ls
  len : ls.length ≤ n
theorem Aft.rel {W : World} {b m n : Nat} {zs : List Zn} {ls : List Rw} (h : Aft W b m n zs ls) {w1 : World} {p : ByteArray} (t : Tb w1 b m zs (Bk.rel p ls)) : Aft w1 b m (n + 1) zs (Bk.rel p ls) := ⟨t, h.ord.rel p, by have := rel_len p ls; have := h.len; omega⟩
theorem Aft.put {W : World} {b m n : Nat} {zs : List Zn} {ls : List Rw} (h : Aft W b m n zs ls) {w1 : World} {p c : ByteArray} {k : Int} {s : Nat → Int} (t : Tb w1 b m zs (putL zs ls p c k s)) : Aft w1 b m (n + 1) zs (putL zs ls p c k s) := ⟨t, h.ord.put p c k s, by have := putL_len zs ls p c k s; have := h.len; omega⟩

set_option maxHeartbeats 4000000 in
set_option maxRecDepth 100000 in
theorem back_is {zv ov : Value} {zs : List Zn} {qs : List Oq} (q : Oq) (w : World) (hz : RdZ w zv zs) (ho : RdO w ov qs) (hg : GdK q.p q.c q.k) :
    Calls Try.prog 5 #[zv, ov, opV q] w fun e w' => e = .returned (.bool true) ∧ Below w.heap.size w w' := by
  have HZ : Hid (RdZ w zv zs) := hz
  have HO : Hid (RdO w ov qs) := ho
  have HG : Hid (GdK q.p q.c q.k) := hg
  obtain ⟨A, hA⟩ : ∃ A, A = greatB qs := ⟨_, rfl⟩
  have HA : Hid (A = greatB qs) := hA
  have GA : Hid (∀ w1, Below w.heap.size w w1 → Calls Try.prog 7 #[ov] w1 fun e w' => e = .returned (.bool A) ∧ Below w1.heap.size w1 w') := fun w1 hb => by rw [hA]; exact great_is w1 (ho.later hb)
  have NW : Hid (∀ w1, Below w.heap.size w w1 → Calls Try.prog 8 #[zv] w1 fun e w' => NewPost w1 (fits zs) zs e w') := fun w1 hb => new_is w1 (hz.later hb)
  clear hA
  obtain ⟨az, cz, rfl, -, zm, -⟩ := hz
  obtain ⟨ao, co, rfl, oc, om, ho3⟩ := ho
  have HO3 : Hid (∀ (j : Nat) (x : Oq), qs[j]? = some x → GdK x.p x.c x.k ∧ ∃ b off : Nat, ao = some ⟨b, off, none⟩ ∧ ElO w b (off + j * 13) x) := ho3
  have zl : qs.length ≤ maxLen := by omega
  unfold maxLen at zl
  clear ho3 hg
  go_enter Try.func5, Try.ntmps5
  go_wp2_with (fail)
  have q0 : Cs (w.alloc (.cells #[.int .i64 q.kd, .int .i64 q.pl, .string q.p, .string q.c, .int .i64 q.k, .int .i64 (q.s 0), .int .i64 (q.s 1), .int .i64 (q.s 2), .int .i64 (q.s 3), .int .i64 (q.s 4), .int .i64 (q.s 5), .int .i64 (q.s 6), .int .i64 (q.s 7)] 57)) w.heap.size (opL q) := Cs.new _ _ _ _ rfl
  have HB0 : Below w.heap.size w (w.alloc (.cells #[.int .i64 q.kd, .int .i64 q.pl, .string q.p, .string q.c, .int .i64 q.k, .int .i64 (q.s 0), .int .i64 (q.s 1), .int .i64 (q.s 2), .int .i64 (q.s 3), .int .i64 (q.s 4), .int .i64 (q.s 5), .int .i64 (q.s 6), .int .i64 (q.s 7)] 57)) := by go_grown
  obtain ⟨b5, hb5⟩ : ∃ b5, b5 = w.heap.size := ⟨_, rfl⟩
  have H5 : Hid (w.heap.size ≤ b5) := Nat.le_of_eq hb5.symm
  have e5 : Value.pointer (some ⟨w.heap.size, 0, none⟩) = .pointer (some ⟨b5, 0, none⟩) := by rw [hb5]
  have q0' : Cs (w.alloc (.cells #[.int .i64 q.kd, .int .i64 q.pl, .string q.p, .string q.c, .int .i64 q.k, .int .i64 (q.s 0), .int .i64 (q.s 1), .int .i64 (q.s 2), .int .i64 (q.s 3), .int .i64 (q.s 4), .int .i64 (q.s 5), .int .i64 (q.s 6), .int .i64 (q.s 7)] 57)) b5 (opL q) := by rw [hb5]; exact q0
  rw [e5]
  clear hb5 e5 q0
  refine (first_is _).mono ?_
  rintro e w1 ⟨rfl, hb⟩
  have q1 := Cs.later hb q0'
  have HB1 := HB0.trans (hb.mono HB0.size)
  clear q0' HB0 hb
  go_wp2_with (fail)
  refine (GA.out w1 HB1).mono ?_
  rintro e w2 ⟨rfl, hb⟩
  have q2 := Cs.later hb q1
  have HB2 := HB1.trans (hb.mono HB1.size)
  clear q1 HB1 hb
  cases A with
  | true =>
    clear HA GA NW HO3
    go_wp2
    go_ret
    exact ⟨rfl, HB2⟩
  | false =>
    obtain ⟨hn, hl⟩ := great_no HA.out.symm
    have HN : Hid (qs.length ≤ 60) := hn
    clear HA GA hn hl
    have d0 := q2.1 0 _ rfl
    have d1 := q2.1 1 _ rfl
    have d2 := q2.1 2 _ rfl
    have d3 := q2.1 3 _ rfl
    have d4 := q2.1 4 _ rfl
    have d5 := q2.1 5 _ rfl
    have d6 := q2.1 6 _ rfl
    have d7 := q2.1 7 _ rfl
    have d8 := q2.1 8 _ rfl
    have d9 := q2.1 9 _ rfl
    have d10 := q2.1 10 _ rfl
    have d11 := q2.1 11 _ rfl
    have d12 := q2.1 12 _ rfl
    have dz := q2.2.2
    go_wp2_with (fail)
    have qx : Cs (w2.alloc (.cells #[.int .i64 q.kd, .int .i64 q.pl, .string q.p, .string q.c, .int .i64 q.k, .int .i64 (q.s 0), .int .i64 (q.s 1), .int .i64 (q.s 2), .int .i64 (q.s 3), .int .i64 (q.s 4), .int .i64 (q.s 5), .int .i64 (q.s 6), .int .i64 (q.s 7)] 57)) w2.heap.size (opL q) := Cs.new _ _ _ _ rfl
    have GQ := great_is _ (RdO.one qx HG.out)
    have q2' := q2.alloc (.cells #[.int .i64 q.kd, .int .i64 q.pl, .string q.p, .string q.c, .int .i64 q.k, .int .i64 (q.s 0), .int .i64 (q.s 1), .int .i64 (q.s 2), .int .i64 (q.s 3), .int .i64 (q.s 4), .int .i64 (q.s 5), .int .i64 (q.s 6), .int .i64 (q.s 7)] 57)
    have HB2' := HB2.alloc HB2.size (.cells #[.int .i64 q.kd, .int .i64 q.pl, .string q.p, .string q.c, .int .i64 q.k, .int .i64 (q.s 0), .int .i64 (q.s 1), .int .i64 (q.s 2), .int .i64 (q.s 3), .int .i64 (q.s 4), .int .i64 (q.s 5), .int .i64 (q.s 6), .int .i64 (q.s 7)] 57)
    clear qx
    obtain ⟨B, hB⟩ : ∃ B, B = greatB [q] := ⟨_, rfl⟩
    rw [← hB] at GQ
    clear hB
    refine GQ.mono ?_
    rintro e w3 ⟨rfl, hb⟩
    have q3 := Cs.later hb q2'
    have HB3 := HB2'.trans (hb.mono HB2'.size)
    clear GQ q2 q2' HB2 HB2' hb d0 d1 d2 d3 d4 d5 d6 d7 d8 d9 d10 d11 d12 dz
    cases B with
    | true =>
      clear NW HO3
      go_wp2
      go_ret
      exact ⟨rfl, HB3⟩
    | false =>
      by_cases n20 : (20 : Int) < (zs.length : Int)
      · clear NW HO3
        go_wp2
        go_ret
        exact ⟨rfl, HB3⟩
      go_wp2_with (fail)
      refine (NW.out w3 HB3).mono ?_
      rintro e w4 ⟨hb, (⟨-, b, m, rfl, T4, lb, lm⟩ | ⟨hf, rfl⟩)⟩
      case inr =>
        have HB4 := HB3.trans (hb.mono HB3.size)
        clear NW HO3 q3 HB3 hb
        go_wp2
        go_ret
        exact ⟨rfl, HB4⟩
      have A4 : Aft w4 b m 0 zs [] := ⟨T4, Ord.nil (fits_all T4.fit), Nat.le_refl _⟩
      have FZ : Hid (∀ z ∈ zs, Fit z) := fits_all T4.fit
      have q4 := Cs.later hb q3
      have HB4 := HB3.trans (hb.mono HB3.size)
      have LM : Hid (w.heap.size ≤ m) := Nat.le_trans HB3.size lm
      clear NW q3 HB3 hb lb lm T4
      go_wp2
      go_loopw [38] (fun f wr => ∃ (j : Nat) (ls : List Rw), f = .int .i64 j ∧ j ≤ qs.length ∧ Aft wr b m j zs ls ∧ Cs wr b5 (opL q) ∧ Below w.heap.size w wr) (fun f _ => qs.length - (intOf f).toNat)
      case atStart => exact ⟨0, [], rfl, Nat.zero_le _, A4, q4, HB4⟩
      case round =>
        clear A4 q4 HB4
        obtain ⟨j, ls, rfl, jl, AF, q5, HB⟩ := hrel
        have hs := HB.size
        by_cases cj : j < qs.length
        · obtain ⟨x, hx⟩ : ∃ x, qs[j]? = some x := ⟨qs[j], List.getElem?_eq_getElem cj⟩
          obtain ⟨gx, bo, off, rfl, TT⟩ := HO3.out j x hx
          obtain ⟨t0, t1, t2, t3, t4, t5, t6, t7, t8, t9, t10, t11, t12⟩ := TT.later HB
          have j0 : (0 : Int) ≤ (j : Int) := by omega
          have j1 : (j : Int) < (qs.length : Int) := by omega
          have GX : Hid (GdK x.p x.c x.k) := gx
          clear TT hx HO3 gx
          go_upto_region 11 with (fail)
          have q9 : Cs (wr.alloc (.cells #[.int .i64 x.kd, .int .i64 x.pl, .string x.p, .string x.c, .int .i64 x.k, .int .i64 (x.s 0), .int .i64 (x.s 1), .int .i64 (x.s 2), .int .i64 (x.s 3), .int .i64 (x.s 4), .int .i64 (x.s 5), .int .i64 (x.s 6), .int .i64 (x.s 7)] 57)) wr.heap.size (opL x) := Cs.new _ _ _ _ rfl
          have HB9 : Below w.heap.size w (wr.alloc (.cells #[.int .i64 x.kd, .int .i64 x.pl, .string x.p, .string x.c, .int .i64 x.k, .int .i64 (x.s 0), .int .i64 (x.s 1), .int .i64 (x.s 2), .int .i64 (x.s 3), .int .i64 (x.s 4), .int .i64 (x.s 5), .int .i64 (x.s 6), .int .i64 (x.s 7)] 57)) := HB.alloc HB.size _
          have q6 := q5.alloc (.cells #[.int .i64 x.kd, .int .i64 x.pl, .string x.p, .string x.c, .int .i64 x.k, .int .i64 (x.s 0), .int .i64 (x.s 1), .int .i64 (x.s 2), .int .i64 (x.s 3), .int .i64 (x.s 4), .int .i64 (x.s 5), .int .i64 (x.s 6), .int .i64 (x.s 7)] 57)
          have T9 := AF.tb.alloc (.cells #[.int .i64 x.kd, .int .i64 x.pl, .string x.p, .string x.c, .int .i64 x.k, .int .i64 (x.s 0), .int .i64 (x.s 1), .int .i64 (x.s 2), .int .i64 (x.s 3), .int .i64 (x.s 4), .int .i64 (x.s 5), .int .i64 (x.s 6), .int .i64 (x.s 7)] 57)
          have A9 : Aft (wr.alloc (.cells #[.int .i64 x.kd, .int .i64 x.pl, .string x.p, .string x.c, .int .i64 x.k, .int .i64 (x.s 0), .int .i64 (x.s 1), .int .i64 (x.s 2), .int .i64 (x.s 3), .int .i64 (x.s 4), .int .i64 (x.s 5), .int .i64 (x.s 6), .int .i64 (x.s 7)] 57)) b m j zs ls := ⟨T9, AF.ord, AF.len⟩
          obtain ⟨b9, hb9⟩ : ∃ b9, b9 = wr.heap.size := ⟨_, rfl⟩
          rw [← hb9] at q9 ⊢
          clear hb9 T9
          generalize wr.alloc (.cells #[.int .i64 x.kd, .int .i64 x.pl, .string x.p, .string x.c, .int .i64 x.k, .int .i64 (x.s 0), .int .i64 (x.s 1), .int .i64 (x.s 2), .int .i64 (x.s 3), .int .i64 (x.s 4), .int .i64 (x.s 5), .int .i64 (x.s 6), .int .i64 (x.s 7)] 57) = W9 at *
          clear t0 t1 t2 t3 t4 t5 t6 t7 t8 t9 t10 t11 t12 HB hs AF q5
          have d0 := q9.1 0 _ rfl
          have d1 := q9.1 1 _ rfl
          have d2 := q9.1 2 _ rfl
          have d3 := q9.1 3 _ rfl
          have d4 := q9.1 4 _ rfl
          have d5 := q9.1 5 _ rfl
          have d6 := q9.1 6 _ rfl
          have d7 := q9.1 7 _ rfl
          have d8 := q9.1 8 _ rfl
          have d9 := q9.1 9 _ rfl
          have d10 := q9.1 10 _ rfl
          have d11 := q9.1 11 _ rfl
          have d12 := q9.1 12 _ rfl
          have dz := q9.2.2
          have hlen := A9.len
          have nq := HN.out
          have n6 := A9.tb.map.ne (q6.1 0 _ rfl)
          by_cases g : bits BinOp.and .i64 x.kd 3 = 3
          · go_wp2_with (fail)
            refine (release_is x.p W9 A9.tb (by omega)).mono ?_
            rintro e w6 ⟨rfl, T6, hg⟩
            have A6 := A9.rel T6
            have q7 := q6.grown hg (fun e => n6 (by cases e; rfl))
            have HB6 := HB9.grown hg HB9.size (fun k e => by cases e; exact LM.out)
            clear hg T6 A9 q6 HB9 q9 n6 d0 d1 d2 d3 d4 d5 d6 d7 d8 d9 d10 d11 d12 dz
            go_wp2
            go_roundw
            case rel => exact ⟨j + 1, _, by go_num, by omega, A6, q7, HB6⟩
            case measure => simp [intOf]; omega
          · go_wp2_with (fail)
            refine (put_is x.p x.c x.k x.s W9 A9.tb A9.ord.sound GX.out (by unfold maxLen; omega)).mono ?_
            rintro e w6 ⟨rfl, T6, hg⟩
            have A6 := A9.put T6
            have q7 := q6.grown hg (fun e => n6 (by cases e; rfl))
            have HB6 := HB9.grown hg HB9.size (fun k e => by cases e; exact LM.out)
            clear hg T6 A9 q6 HB9 q9 n6 d0 d1 d2 d3 d4 d5 d6 d7 d8 d9 d10 d11 d12 dz
            go_wp2
            go_roundw
            case rel => exact ⟨j + 1, _, by go_num, by omega, A6, q7, HB6⟩
            case measure => simp [intOf]; omega

        · obtain rfl : j = qs.length := by omega
          have T := AF.tb
          have O := AF.ord
          have SO : Hid (Srt ls) := O.sorted
          have nl : ls.length ≤ 60 := by have := AF.len; have := HN.out; omega
          obtain ⟨E, hE⟩ : ∃ E, E = putE zs ls q.p q.c q.k q.s := ⟨_, rfl⟩
          obtain ⟨ms, hm⟩ : ∃ ms, ms = putL zs ls q.p q.c q.k q.s := ⟨_, rfl⟩
          obtain ⟨H, hH⟩ : ∃ H, H = hld q.p q.c q.k ls := ⟨_, rfl⟩
          obtain ⟨G, hG⟩ : ∃ G, G = hld q.p q.c q.k ms := ⟨_, rfl⟩
          have HL : Hid (∀ w1, Tb w1 b m zs ls → Calls Try.prog 17 #[tbV b, ownV q.p q.c q.k] w1 fun e w' => e = .returned (spV H) ∧ Below w1.heap.size w1 w') := fun w1 h => by rw [hH]; exact held_is q.p q.c q.k w1 h HG.out
          have PU : Hid (∀ w1, Tb w1 b m zs ls → Calls Try.prog 16 #[tbV b, ownV q.p q.c q.k, spV q.s] w1 fun e w' => e = .returned (.int .i64 E) ∧ Tb w' b m zs ms ∧ w1.grownBy w' (some m)) := fun w1 h => by rw [hE, hm]; exact put_is q.p q.c q.k q.s w1 h O.sound HG.out (by unfold maxLen; omega)
          have SM : Hid (∀ w1 b' m', Tb w1 b m zs ls → Tb w1 b' m' zs ls → Calls Try.prog 20 #[tbV b, tbV b'] w1 fun e w' => e = .returned (.bool true) ∧ Below w1.heap.size w1 w') := fun w1 b' m' h h' => by have := same_is w1 h h'; rwa [same_refl SO.out] at this
          have NO : Hid (E ≠ 0 → ms = ls) := fun e => by rw [hm, putL, if_neg (by rw [← hE]; exact e)]
          have OKC : Hid (E = 0 → Hid (∀ w1, Tb w1 b m zs ms → Calls Try.prog 17 #[tbV b, ownV q.p q.c q.k] w1 fun e w' => e = .returned (spV G) ∧ Below w1.heap.size w1 w') ∧ Hid (∀ w1, Tb w1 b m zs ms → Calls Try.prog 16 #[tbV b, ownV q.p q.c q.k, spV H] w1 fun e w' => e = .returned (.int .i64 0) ∧ Tb w' b m zs ls ∧ w1.grownBy w' (some m)) ∧ Hid (∀ w1 : World, Sem.run Try.prog (Op.equalIn 10000 47 (spV G) (spV q.s)) w1 = .ok true w1)) := fun e0 => by
            have e1 : putE zs ls q.p q.c q.k q.s = 0 := by rw [← hE]; exact e0
            have e2 : ms = putR ls q.p q.c q.k q.s := by rw [hm, putL, if_pos e1]
            have Om : Ord zs ms := by rw [hm]; exact O.put _ _ _ _
            refine ⟨fun w1 h => by rw [hG]; exact held_is q.p q.c q.k w1 h HG.out, fun w1 h => ?_, fun w1 => ?_⟩
            · have e3 : putE zs ms q.p q.c q.k H = 0 := by rw [e2, hH]; exact putE_back FZ.out O e1
              have e4 : putL zs ms q.p q.c q.k H = ls := by rw [putL, if_pos e3, e2, hH]; exact put_back O _ _ _ _
              have := put_is q.p q.c q.k H w1 h Om.sound HG.out (by have := putL_len zs ls q.p q.c q.k q.s; rw [← hm] at this; unfold maxLen; omega)
              rwa [e3, e4] at this
            · have := sp_eq 9998 G q.s w1
              rwa [show eqP G q.s = true from eqP_iff.2 fun i hi => by rw [hG, e2]; exact hld_putR O.sorted _ _ _ _ i hi] at this
          clear hE hm hH hG SO O AF HO3 nl FZ
          go_upto_region 15 with (fail)
          have BW : Hid (Below wr.heap.size wr _) := Below.drew (Below.refl _ _)
          refine wp_region_noPanic ?_
          refine wp_region_held_drew (S := fun w' => Cs w' b5 (opL q)) (by kernel_rfl) ?_ (fun hHeld => ?_)
          · exact Cs.later BW.out q5
          generalize World.drew _ = wd0 at *
          refine wpAnyH_take (i := 0) (v := ?_) rfl (by kernel_rfl) (by kernel_rfl) (by kernel_rfl) (fun _ _ _ h => h) (Or.inl ⟨by rfl, ?_⟩) (by assumption) ?_
          rotate_left
          · (intro wS hSw; have d2 := hSw.1 2 _ rfl; have d3 := hSw.1 3 _ rfl; have d4 := hSw.1 4 _ rfl; go_simp; try with_reducible rfl)
          change wpAnyH _ _ _ _ _ _ _ (Act.put _ (some 58) _) _
          simp only [Act.put, List.setIfInBounds_toArray, List.set_cons_zero, List.set_cons_succ]
          refine wpAnyH_take (i := 2) (v := ?_) rfl (by kernel_rfl) (by kernel_rfl) (by kernel_rfl) (fun _ _ _ h => h) (Or.inl ⟨by rfl, ?_⟩) (by assumption) ?_
          rotate_left
          · (intro wS hSw; have d2 := hSw.1 2 _ rfl; have d3 := hSw.1 3 _ rfl; have d4 := hSw.1 4 _ rfl; go_simp; try with_reducible rfl)
          change wpAnyH _ _ _ _ _ _ _ (Act.put _ (some 60) _) _
          simp only [Act.put, List.setIfInBounds_toArray, List.set_cons_zero, List.set_cons_succ]
          refine wpAnyH_take (i := 3) (v := ?_) rfl (by kernel_rfl) (by kernel_rfl) (by kernel_rfl) (fun _ _ _ h => h) (Or.inl ⟨by rfl, ?_⟩) (by assumption) ?_
          rotate_left
          · (intro wS hSw; have d2 := hSw.1 2 _ rfl; have d3 := hSw.1 3 _ rfl; have d4 := hSw.1 4 _ rfl; go_simp; try with_reducible rfl)
          change wpAnyH _ _ _ _ _ _ _ (Act.put _ (some 61) _) _
          simp only [Act.put, List.setIfInBounds_toArray, List.set_cons_zero, List.set_cons_succ]
          refine wpAnyH_take (i := 4) (v := ?_) rfl (by kernel_rfl) (by kernel_rfl) (by kernel_rfl) (fun _ _ _ h => h) (Or.inl ⟨by rfl, ?_⟩) (by assumption) ?_
          rotate_left
          · (intro wS hSw; have d2 := hSw.1 2 _ rfl; have d3 := hSw.1 3 _ rfl; have d4 := hSw.1 4 _ rfl; go_simp; try with_reducible rfl)
          change wpAnyH _ _ _ _ _ _ _ (Act.put _ (some 62) _) _
          simp only [Act.put, List.setIfInBounds_toArray, List.set_cons_zero, List.set_cons_succ]
          refine wpAnyH_ready (rs := [1, 6]) (by kernel_rfl) (by simp) ?_
          refine AllReadyH.cons rfl (fun K hK => ?_) (AllReadyH.cons rfl (fun K hK => ?_) AllReadyH.nil)
          ·
            go_simp
            refine (clone_new _ (Tb.later BW.out T)).mono ?_
            rintro e v1 ⟨b', m', rfl, tc, fr, hv1⟩
            have BW' : Hid (Below wr.heap.size wr v1) := BW.out.trans (hv1.mono BW.out.size)
            have TC' : Hid (Tb v1 b' m' zs ls) := tc
            have MN' : Hid (m' ≠ m) := fun e => by have h1 := fr.2.1; have h2 := BW.out.size; have h3 := T.map.lt; omega
            clear hv1 BW
            have BW := BW'
            clear BW'
            have TC := TC'
            clear TC'
            have MN := MN'
            clear MN'
            (try go_wp2_with (fail))
            refine hK.out _ _ ?_ (fun hHeld => ?_)
            · exact Cs.later BW.out q5
            clear hK K
            refine wpAnyH_ready (rs := [5, 6]) (by kernel_rfl) (by simp) ?_
            refine AllReadyH.cons rfl (fun K hK => ?_) (AllReadyH.cons rfl (fun K hK => ?_) AllReadyH.nil)
            ·
              go_simp
              refine (HL.out _ (Tb.later BW.out T)).mono ?_
              rintro e v2 ⟨rfl, hv2⟩
              have BW' : Hid (Below wr.heap.size wr v2) := BW.out.trans (hv2.mono BW.out.size)
              have TC' : Hid (Tb v2 b' m' zs ls) := Tb.later hv2 TC.out
              have MN' : Hid (m' ≠ m) := MN.out
              clear hv2 BW TC MN
              have BW := BW'
              clear BW'
              have TC := TC'
              clear TC'
              have MN := MN'
              clear MN'
              (try go_wp2_with (fail))
              refine hK.out _ _ ?_ (fun hHeld => ?_)
              · exact Cs.later BW.out q5
              clear hK K
              refine wpAnyH_ready (rs := [6]) (by kernel_rfl) (by simp) ?_
              refine AllReadyH.cons rfl (fun K hK => ?_) AllReadyH.nil
              go_simp
              obtain ⟨ph, hph⟩ : ∃ ph, ph = v2.heap.size := ⟨_, rfl⟩
              have BW' : Hid (Below wr.heap.size wr (v2.alloc (.cells #[.int .i64 0, .int .i64 0, .int .i64 0, .int .i64 0, .int .i64 0, .int .i64 0, .int .i64 0, .int .i64 0] 47))) := BW.out.alloc BW.out.size _
              have TC' : Hid (Tb (v2.alloc (.cells #[.int .i64 0, .int .i64 0, .int .i64 0, .int .i64 0, .int .i64 0, .int .i64 0, .int .i64 0, .int .i64 0] 47)) b' m' zs ls) := Tb.alloc TC.out _
              have MN' : Hid (m' ≠ m) := MN.out
              have N12' : Hid (Cs (v2.alloc (.cells #[.int .i64 0, .int .i64 0, .int .i64 0, .int .i64 0, .int .i64 0, .int .i64 0, .int .i64 0, .int .i64 0] 47)) ph (spL nought) ∧ wr.heap.size ≤ ph) := by rw [hph]; exact ⟨Cs.new _ _ _ _ rfl, BW.out.size⟩
              have DD' : Hid (∀ w9, (v2.alloc (.cells #[.int .i64 0, .int .i64 0, .int .i64 0, .int .i64 0, .int .i64 0, .int .i64 0, .int .i64 0, .int .i64 0] 47)).grownBy w9 (some ph) → Tb w9 b' m' zs ls) := by rw [hph]; exact fun w9 hg => Tb.later (((Below.refl _ _).alloc (Nat.le_refl _) _).grown hg ((Below.refl _ _).alloc (Nat.le_refl _) _).size (fun k e => by cases e; exact Nat.le_refl _)) TC.out
              clear BW TC MN
              have BW := BW'
              clear BW'
              have TC := TC'
              clear TC'
              have MN := MN'
              clear MN'
              have N12 := N12'
              clear N12'
              have DD := DD'
              clear DD'
              refine hK.out _ _ ?_ (fun hHeld => ?_)
              · exact Cs.later BW.out q5
              clear hK K
              rw [← hph]
              clear hph
              generalize v2.alloc (.cells #[.int .i64 0, .int .i64 0, .int .i64 0, .int .i64 0, .int .i64 0, .int .i64 0, .int .i64 0, .int .i64 0] 47) = wA3 at *
              refine wpAnyH_take (i := 7) (v := ?_) rfl (by kernel_rfl) (by kernel_rfl) (by kernel_rfl) (fun _ _ _ h => h) (Or.inl ⟨by rfl, ?_⟩) (by assumption) ?_
              rotate_left
              · (intro wS hSw; have d2 := hSw.1 2 _ rfl; have d3 := hSw.1 3 _ rfl; have d4 := hSw.1 4 _ rfl; go_simp; try with_reducible rfl)
              change wpAnyH _ _ _ _ _ _ _ (Act.put _ (some 11) _) _
              simp only [Act.put, List.setIfInBounds_toArray, List.set_cons_zero, List.set_cons_succ]
              refine wpAnyH_ready (rs := [8]) (by kernel_rfl) (by simp) ?_
              refine AllReadyH.cons rfl (fun K hK => ?_) AllReadyH.nil
              have c0 := N12.out.1.1 0 _ rfl
              have c1 := N12.out.1.1 1 _ rfl
              have c2 := N12.out.1.1 2 _ rfl
              have c3 := N12.out.1.1 3 _ rfl
              have c4 := N12.out.1.1 4 _ rfl
              have c5 := N12.out.1.1 5 _ rfl
              have c6 := N12.out.1.1 6 _ rfl
              have c7 := N12.out.1.1 7 _ rfl
              have f0 := N12.out.1.2.1 0 (by show 0 < 8; omega)
              have f1 := N12.out.1.2.1 1 (by show 1 < 8; omega)
              have f2 := N12.out.1.2.1 2 (by show 2 < 8; omega)
              have f3 := N12.out.1.2.1 3 (by show 3 < 8; omega)
              have f4 := N12.out.1.2.1 4 (by show 4 < 8; omega)
              have f5 := N12.out.1.2.1 5 (by show 5 < 8; omega)
              have f6 := N12.out.1.2.1 6 (by show 6 < 8; omega)
              have f7 := N12.out.1.2.1 7 (by show 7 < 8; omega)
              have BW' : Hid (Below wr.heap.size wr ((((((((wA3.setCell ⟨ph, 0, none⟩ (.int .i64 (H 0))).setCell ⟨ph, 1, none⟩ (.int .i64 (H 1))).setCell ⟨ph, 2, none⟩ (.int .i64 (H 2))).setCell ⟨ph, 3, none⟩ (.int .i64 (H 3))).setCell ⟨ph, 4, none⟩ (.int .i64 (H 4))).setCell ⟨ph, 5, none⟩ (.int .i64 (H 5))).setCell ⟨ph, 6, none⟩ (.int .i64 (H 6))).setCell ⟨ph, 7, none⟩ (.int .i64 (H 7)))) := below_put8 BW.out N12.out.2 H
              have N12' : Hid (Cs ((((((((wA3.setCell ⟨ph, 0, none⟩ (.int .i64 (H 0))).setCell ⟨ph, 1, none⟩ (.int .i64 (H 1))).setCell ⟨ph, 2, none⟩ (.int .i64 (H 2))).setCell ⟨ph, 3, none⟩ (.int .i64 (H 3))).setCell ⟨ph, 4, none⟩ (.int .i64 (H 4))).setCell ⟨ph, 5, none⟩ (.int .i64 (H 5))).setCell ⟨ph, 6, none⟩ (.int .i64 (H 6))).setCell ⟨ph, 7, none⟩ (.int .i64 (H 7))) ph (spL H)) := cs_put8 N12.out.1 H
              have TC' : Hid (Tb ((((((((wA3.setCell ⟨ph, 0, none⟩ (.int .i64 (H 0))).setCell ⟨ph, 1, none⟩ (.int .i64 (H 1))).setCell ⟨ph, 2, none⟩ (.int .i64 (H 2))).setCell ⟨ph, 3, none⟩ (.int .i64 (H 3))).setCell ⟨ph, 4, none⟩ (.int .i64 (H 4))).setCell ⟨ph, 5, none⟩ (.int .i64 (H 5))).setCell ⟨ph, 6, none⟩ (.int .i64 (H 6))).setCell ⟨ph, 7, none⟩ (.int .i64 (H 7))) b' m' zs ls) := DD.out _ (own_set8 wA3 ph H)
              clear N12 BW TC DD
              have BW := BW'
              have N12 := N12'
              have TC := TC'
              clear BW' N12' TC'
              go_wp2_with (fail)
              refine hK.out _ _ ?_ (fun hHeld => ?_)
              · exact Cs.later BW.out q5
              clear hK K c0 f0 c1 f1 c2 f2 c3 f3 c4 f4 c5 f5 c6 f6 c7 f7
              generalize ((((((((wA3.setCell ⟨ph, 0, none⟩ (.int .i64 (H 0))).setCell ⟨ph, 1, none⟩ (.int .i64 (H 1))).setCell ⟨ph, 2, none⟩ (.int .i64 (H 2))).setCell ⟨ph, 3, none⟩ (.int .i64 (H 3))).setCell ⟨ph, 4, none⟩ (.int .i64 (H 4))).setCell ⟨ph, 5, none⟩ (.int .i64 (H 5))).setCell ⟨ph, 6, none⟩ (.int .i64 (H 6))).setCell ⟨ph, 7, none⟩ (.int .i64 (H 7))) = wS at *
              refine wpAnyH_done (by kernel_rfl) ?_ _
              refine NoPanic.normal ?_
              have T7 := Tb.later BW.out T
              have q7 := Cs.later BW.out q5
              have HB7 := HB.trans (BW.out.mono HB.size)
              have d2 := q7.1 2 _ rfl
              have d3 := q7.1 3 _ rfl
              have d4 := q7.1 4 _ rfl
              have d5 := q7.1 5 _ rfl
              have d6 := q7.1 6 _ rfl
              have d7 := q7.1 7 _ rfl
              have d8 := q7.1 8 _ rfl
              have d9 := q7.1 9 _ rfl
              have d10 := q7.1 10 _ rfl
              have d11 := q7.1 11 _ rfl
              have d12 := q7.1 12 _ rfl
              have dz := q7.2.2
              clear BW
              go_wp2_with (fail)
              refine (PU.out wS T7).mono ?_
              rintro e w8 ⟨rfl, T8, hg⟩
              have n2 := T7.map.ne (q7.1 0 _ rfl)
              have n3 := T7.map.ne (N12.out.1 0 _ rfl)
              have q8 := q7.grown hg (fun e => n2 (by cases e; rfl))
              have N8 := N12.out.grown hg (fun e => n3 (by cases e; rfl))
              have TC8 := TC.out.other T7.map MN.out hg
              have HB8 := HB7.grown hg HB7.size (fun k e => by cases e; exact LM.out)
              clear T7 q7 HB7 hg n2 n3 N12 TC dz d2 d3 d4 d5 d6 d7 d8 d9 d10 d11 d12
              by_cases e0 : E = 0
              · obtain ⟨HV, PV, EQ⟩ := OKC.out e0
                go_upto_region 17 with (fail)
                have BW : Hid (Below w8.heap.size w8 _) := Below.drew (Below.refl _ _)
                refine wp_region_noPanic ?_
                refine wp_region_held_drew (S := fun w' => Cs w' b5 (opL q) ∧ Cs w' ph (spL H)) (by kernel_rfl) ?_ (fun hHeld => ?_)
                · exact ⟨Cs.later BW.out q8, Cs.later BW.out N8⟩
                generalize World.drew _ = wd0 at *
                refine wpAnyH_take (i := 0) (v := ?_) rfl (by kernel_rfl) (by kernel_rfl) (by kernel_rfl) (fun _ _ _ h => h) (Or.inl ⟨by rfl, ?_⟩) (by assumption) ?_
                rotate_left
                · (intro wS hSw; have d2 := hSw.1.1 2 _ rfl; have d3 := hSw.1.1 3 _ rfl; have d4 := hSw.1.1 4 _ rfl; have d5 := hSw.1.1 5 _ rfl; have d6 := hSw.1.1 6 _ rfl; have d7 := hSw.1.1 7 _ rfl; have d8 := hSw.1.1 8 _ rfl; have d9 := hSw.1.1 9 _ rfl; have d10 := hSw.1.1 10 _ rfl; have d11 := hSw.1.1 11 _ rfl; have d12 := hSw.1.1 12 _ rfl; have c0 := hSw.2.1 0 _ rfl; have c1 := hSw.2.1 1 _ rfl; have c2 := hSw.2.1 2 _ rfl; have c3 := hSw.2.1 3 _ rfl; have c4 := hSw.2.1 4 _ rfl; have c5 := hSw.2.1 5 _ rfl; have c6 := hSw.2.1 6 _ rfl; have c7 := hSw.2.1 7 _ rfl; have zz := EQ.out wS; go_simp; try with_reducible rfl)
                change wpAnyH _ _ _ _ _ _ _ (Act.put _ (some 71) _) _
                simp only [Act.put, List.setIfInBounds_toArray, List.set_cons_zero, List.set_cons_succ]
                refine wpAnyH_take (i := 1) (v := ?_) rfl (by kernel_rfl) (by kernel_rfl) (by kernel_rfl) (fun _ _ _ h => h) (Or.inl ⟨by rfl, ?_⟩) (by assumption) ?_
                rotate_left
                · (intro wS hSw; have d2 := hSw.1.1 2 _ rfl; have d3 := hSw.1.1 3 _ rfl; have d4 := hSw.1.1 4 _ rfl; have d5 := hSw.1.1 5 _ rfl; have d6 := hSw.1.1 6 _ rfl; have d7 := hSw.1.1 7 _ rfl; have d8 := hSw.1.1 8 _ rfl; have d9 := hSw.1.1 9 _ rfl; have d10 := hSw.1.1 10 _ rfl; have d11 := hSw.1.1 11 _ rfl; have d12 := hSw.1.1 12 _ rfl; have c0 := hSw.2.1 0 _ rfl; have c1 := hSw.2.1 1 _ rfl; have c2 := hSw.2.1 2 _ rfl; have c3 := hSw.2.1 3 _ rfl; have c4 := hSw.2.1 4 _ rfl; have c5 := hSw.2.1 5 _ rfl; have c6 := hSw.2.1 6 _ rfl; have c7 := hSw.2.1 7 _ rfl; have zz := EQ.out wS; go_simp; try with_reducible rfl)
                change wpAnyH _ _ _ _ _ _ _ (Act.put _ (some 72) _) _
                simp only [Act.put, List.setIfInBounds_toArray, List.set_cons_zero, List.set_cons_succ]
                refine wpAnyH_take (i := 2) (v := ?_) rfl (by kernel_rfl) (by kernel_rfl) (by kernel_rfl) (fun _ _ _ h => h) (Or.inl ⟨by rfl, ?_⟩) (by assumption) ?_
                rotate_left
                · (intro wS hSw; have d2 := hSw.1.1 2 _ rfl; have d3 := hSw.1.1 3 _ rfl; have d4 := hSw.1.1 4 _ rfl; have d5 := hSw.1.1 5 _ rfl; have d6 := hSw.1.1 6 _ rfl; have d7 := hSw.1.1 7 _ rfl; have d8 := hSw.1.1 8 _ rfl; have d9 := hSw.1.1 9 _ rfl; have d10 := hSw.1.1 10 _ rfl; have d11 := hSw.1.1 11 _ rfl; have d12 := hSw.1.1 12 _ rfl; have c0 := hSw.2.1 0 _ rfl; have c1 := hSw.2.1 1 _ rfl; have c2 := hSw.2.1 2 _ rfl; have c3 := hSw.2.1 3 _ rfl; have c4 := hSw.2.1 4 _ rfl; have c5 := hSw.2.1 5 _ rfl; have c6 := hSw.2.1 6 _ rfl; have c7 := hSw.2.1 7 _ rfl; have zz := EQ.out wS; go_simp; try with_reducible rfl)
                change wpAnyH _ _ _ _ _ _ _ (Act.put _ (some 73) _) _
                simp only [Act.put, List.setIfInBounds_toArray, List.set_cons_zero, List.set_cons_succ]
                refine wpAnyH_take (i := 4) (v := ?_) rfl (by kernel_rfl) (by kernel_rfl) (by kernel_rfl) (fun _ _ _ h => h) (Or.inl ⟨by rfl, ?_⟩) (by assumption) ?_
                rotate_left
                · (intro wS hSw; have d2 := hSw.1.1 2 _ rfl; have d3 := hSw.1.1 3 _ rfl; have d4 := hSw.1.1 4 _ rfl; have d5 := hSw.1.1 5 _ rfl; have d6 := hSw.1.1 6 _ rfl; have d7 := hSw.1.1 7 _ rfl; have d8 := hSw.1.1 8 _ rfl; have d9 := hSw.1.1 9 _ rfl; have d10 := hSw.1.1 10 _ rfl; have d11 := hSw.1.1 11 _ rfl; have d12 := hSw.1.1 12 _ rfl; have c0 := hSw.2.1 0 _ rfl; have c1 := hSw.2.1 1 _ rfl; have c2 := hSw.2.1 2 _ rfl; have c3 := hSw.2.1 3 _ rfl; have c4 := hSw.2.1 4 _ rfl; have c5 := hSw.2.1 5 _ rfl; have c6 := hSw.2.1 6 _ rfl; have c7 := hSw.2.1 7 _ rfl; have zz := EQ.out wS; go_simp; try with_reducible rfl)
                change wpAnyH _ _ _ _ _ _ _ (Act.put _ (some 75) _) _
                simp only [Act.put, List.setIfInBounds_toArray, List.set_cons_zero, List.set_cons_succ]
                refine wpAnyH_take (i := 5) (v := ?_) rfl (by kernel_rfl) (by kernel_rfl) (by kernel_rfl) (fun _ _ _ h => h) (Or.inl ⟨by rfl, ?_⟩) (by assumption) ?_
                rotate_left
                · (intro wS hSw; have d2 := hSw.1.1 2 _ rfl; have d3 := hSw.1.1 3 _ rfl; have d4 := hSw.1.1 4 _ rfl; have d5 := hSw.1.1 5 _ rfl; have d6 := hSw.1.1 6 _ rfl; have d7 := hSw.1.1 7 _ rfl; have d8 := hSw.1.1 8 _ rfl; have d9 := hSw.1.1 9 _ rfl; have d10 := hSw.1.1 10 _ rfl; have d11 := hSw.1.1 11 _ rfl; have d12 := hSw.1.1 12 _ rfl; have c0 := hSw.2.1 0 _ rfl; have c1 := hSw.2.1 1 _ rfl; have c2 := hSw.2.1 2 _ rfl; have c3 := hSw.2.1 3 _ rfl; have c4 := hSw.2.1 4 _ rfl; have c5 := hSw.2.1 5 _ rfl; have c6 := hSw.2.1 6 _ rfl; have c7 := hSw.2.1 7 _ rfl; have zz := EQ.out wS; go_simp; try with_reducible rfl)
                change wpAnyH _ _ _ _ _ _ _ (Act.put _ (some 76) _) _
                simp only [Act.put, List.setIfInBounds_toArray, List.set_cons_zero, List.set_cons_succ]
                refine wpAnyH_ready (rs := [3]) (by kernel_rfl) (by simp) ?_
                refine AllReadyH.cons rfl (fun K hK => ?_) AllReadyH.nil
                go_simp
                refine (HV.out _ (Tb.later BW.out T8)).mono ?_
                rintro e v1 ⟨rfl, hv1⟩
                have BW' : Hid (Below w8.heap.size w8 v1) := BW.out.trans (hv1.mono BW.out.size)
                clear hv1 BW
                have BW := BW'
                clear BW'
                (try go_wp2_with (fail))
                refine hK.out _ _ ?_ (fun hHeld => ?_)
                · exact ⟨Cs.later BW.out q8, Cs.later BW.out N8⟩
                clear hK K
                refine wpAnyH_take (i := 6) (v := ?_) rfl (by kernel_rfl) (by kernel_rfl) (by kernel_rfl) (fun _ _ _ h => h) (Or.inl ⟨by rfl, ?_⟩) (by assumption) ?_
                rotate_left
                · (intro wS hSw; have d2 := hSw.1.1 2 _ rfl; have d3 := hSw.1.1 3 _ rfl; have d4 := hSw.1.1 4 _ rfl; have d5 := hSw.1.1 5 _ rfl; have d6 := hSw.1.1 6 _ rfl; have d7 := hSw.1.1 7 _ rfl; have d8 := hSw.1.1 8 _ rfl; have d9 := hSw.1.1 9 _ rfl; have d10 := hSw.1.1 10 _ rfl; have d11 := hSw.1.1 11 _ rfl; have d12 := hSw.1.1 12 _ rfl; have c0 := hSw.2.1 0 _ rfl; have c1 := hSw.2.1 1 _ rfl; have c2 := hSw.2.1 2 _ rfl; have c3 := hSw.2.1 3 _ rfl; have c4 := hSw.2.1 4 _ rfl; have c5 := hSw.2.1 5 _ rfl; have c6 := hSw.2.1 6 _ rfl; have c7 := hSw.2.1 7 _ rfl; have zz := EQ.out wS; go_simp; try with_reducible rfl)
                change wpAnyH _ _ _ _ _ _ _ (Act.put _ (some 77) _) _
                simp only [Act.put, List.setIfInBounds_toArray, List.set_cons_zero, List.set_cons_succ]
                refine wpAnyH_take (i := 7) (v := ?_) rfl (by kernel_rfl) (by kernel_rfl) (by kernel_rfl) (fun _ _ _ h => h) (Or.inl ⟨by rfl, ?_⟩) (by assumption) ?_
                rotate_left
                · (intro wS hSw; have d2 := hSw.1.1 2 _ rfl; have d3 := hSw.1.1 3 _ rfl; have d4 := hSw.1.1 4 _ rfl; have d5 := hSw.1.1 5 _ rfl; have d6 := hSw.1.1 6 _ rfl; have d7 := hSw.1.1 7 _ rfl; have d8 := hSw.1.1 8 _ rfl; have d9 := hSw.1.1 9 _ rfl; have d10 := hSw.1.1 10 _ rfl; have d11 := hSw.1.1 11 _ rfl; have d12 := hSw.1.1 12 _ rfl; have c0 := hSw.2.1 0 _ rfl; have c1 := hSw.2.1 1 _ rfl; have c2 := hSw.2.1 2 _ rfl; have c3 := hSw.2.1 3 _ rfl; have c4 := hSw.2.1 4 _ rfl; have c5 := hSw.2.1 5 _ rfl; have c6 := hSw.2.1 6 _ rfl; have c7 := hSw.2.1 7 _ rfl; have zz := EQ.out wS; go_simp; try with_reducible rfl)
                change wpAnyH _ _ _ _ _ _ _ (Act.put _ (some 78) _) _
                simp only [Act.put, List.setIfInBounds_toArray, List.set_cons_zero, List.set_cons_succ]
                refine wpAnyH_take (i := 8) (v := ?_) rfl (by kernel_rfl) (by kernel_rfl) (by kernel_rfl) (fun _ _ _ h => h) (Or.inl ⟨by rfl, ?_⟩) (by assumption) ?_
                rotate_left
                · (intro wS hSw; have d2 := hSw.1.1 2 _ rfl; have d3 := hSw.1.1 3 _ rfl; have d4 := hSw.1.1 4 _ rfl; have d5 := hSw.1.1 5 _ rfl; have d6 := hSw.1.1 6 _ rfl; have d7 := hSw.1.1 7 _ rfl; have d8 := hSw.1.1 8 _ rfl; have d9 := hSw.1.1 9 _ rfl; have d10 := hSw.1.1 10 _ rfl; have d11 := hSw.1.1 11 _ rfl; have d12 := hSw.1.1 12 _ rfl; have c0 := hSw.2.1 0 _ rfl; have c1 := hSw.2.1 1 _ rfl; have c2 := hSw.2.1 2 _ rfl; have c3 := hSw.2.1 3 _ rfl; have c4 := hSw.2.1 4 _ rfl; have c5 := hSw.2.1 5 _ rfl; have c6 := hSw.2.1 6 _ rfl; have c7 := hSw.2.1 7 _ rfl; have zz := EQ.out wS; go_simp; try with_reducible rfl)
                change wpAnyH _ _ _ _ _ _ _ (Act.put _ (some 79) _) _
                simp only [Act.put, List.setIfInBounds_toArray, List.set_cons_zero, List.set_cons_succ]
                refine wpAnyH_take (i := 9) (v := ?_) rfl (by kernel_rfl) (by kernel_rfl) (by kernel_rfl) (fun _ _ _ h => h) (Or.inl ⟨by rfl, ?_⟩) (by assumption) ?_
                rotate_left
                · (intro wS hSw; have d2 := hSw.1.1 2 _ rfl; have d3 := hSw.1.1 3 _ rfl; have d4 := hSw.1.1 4 _ rfl; have d5 := hSw.1.1 5 _ rfl; have d6 := hSw.1.1 6 _ rfl; have d7 := hSw.1.1 7 _ rfl; have d8 := hSw.1.1 8 _ rfl; have d9 := hSw.1.1 9 _ rfl; have d10 := hSw.1.1 10 _ rfl; have d11 := hSw.1.1 11 _ rfl; have d12 := hSw.1.1 12 _ rfl; have c0 := hSw.2.1 0 _ rfl; have c1 := hSw.2.1 1 _ rfl; have c2 := hSw.2.1 2 _ rfl; have c3 := hSw.2.1 3 _ rfl; have c4 := hSw.2.1 4 _ rfl; have c5 := hSw.2.1 5 _ rfl; have c6 := hSw.2.1 6 _ rfl; have c7 := hSw.2.1 7 _ rfl; have zz := EQ.out wS; go_simp; try with_reducible rfl)
                change wpAnyH _ _ _ _ _ _ _ (Act.put _ (some 80) _) _
                simp only [Act.put, List.setIfInBounds_toArray, List.set_cons_zero, List.set_cons_succ]
                refine wpAnyH_take (i := 10) (v := ?_) rfl (by kernel_rfl) (by kernel_rfl) (by kernel_rfl) (fun _ _ _ h => h) (Or.inl ⟨by rfl, ?_⟩) (by assumption) ?_
                rotate_left
                · (intro wS hSw; have d2 := hSw.1.1 2 _ rfl; have d3 := hSw.1.1 3 _ rfl; have d4 := hSw.1.1 4 _ rfl; have d5 := hSw.1.1 5 _ rfl; have d6 := hSw.1.1 6 _ rfl; have d7 := hSw.1.1 7 _ rfl; have d8 := hSw.1.1 8 _ rfl; have d9 := hSw.1.1 9 _ rfl; have d10 := hSw.1.1 10 _ rfl; have d11 := hSw.1.1 11 _ rfl; have d12 := hSw.1.1 12 _ rfl; have c0 := hSw.2.1 0 _ rfl; have c1 := hSw.2.1 1 _ rfl; have c2 := hSw.2.1 2 _ rfl; have c3 := hSw.2.1 3 _ rfl; have c4 := hSw.2.1 4 _ rfl; have c5 := hSw.2.1 5 _ rfl; have c6 := hSw.2.1 6 _ rfl; have c7 := hSw.2.1 7 _ rfl; have zz := EQ.out wS; go_simp; try with_reducible rfl)
                change wpAnyH _ _ _ _ _ _ _ (Act.put _ (some 81) _) _
                simp only [Act.put, List.setIfInBounds_toArray, List.set_cons_zero, List.set_cons_succ]
                refine wpAnyH_take (i := 11) (v := ?_) rfl (by kernel_rfl) (by kernel_rfl) (by kernel_rfl) (fun _ _ _ h => h) (Or.inl ⟨by rfl, ?_⟩) (by assumption) ?_
                rotate_left
                · (intro wS hSw; have d2 := hSw.1.1 2 _ rfl; have d3 := hSw.1.1 3 _ rfl; have d4 := hSw.1.1 4 _ rfl; have d5 := hSw.1.1 5 _ rfl; have d6 := hSw.1.1 6 _ rfl; have d7 := hSw.1.1 7 _ rfl; have d8 := hSw.1.1 8 _ rfl; have d9 := hSw.1.1 9 _ rfl; have d10 := hSw.1.1 10 _ rfl; have d11 := hSw.1.1 11 _ rfl; have d12 := hSw.1.1 12 _ rfl; have c0 := hSw.2.1 0 _ rfl; have c1 := hSw.2.1 1 _ rfl; have c2 := hSw.2.1 2 _ rfl; have c3 := hSw.2.1 3 _ rfl; have c4 := hSw.2.1 4 _ rfl; have c5 := hSw.2.1 5 _ rfl; have c6 := hSw.2.1 6 _ rfl; have c7 := hSw.2.1 7 _ rfl; have zz := EQ.out wS; go_simp; try with_reducible rfl)
                change wpAnyH _ _ _ _ _ _ _ (Act.put _ (some 82) _) _
                simp only [Act.put, List.setIfInBounds_toArray, List.set_cons_zero, List.set_cons_succ]
                refine wpAnyH_ready (rs := [12]) (by kernel_rfl) (by simp) ?_
                refine AllReadyH.cons rfl (fun K hK => ?_) AllReadyH.nil
                have x1 := Tb.later BW.out T8
                have x2 := Cs.later BW.out q8
                have x3 := Cs.later BW.out N8
                have x4 := Tb.later BW.out TC8
                have x5 := HB8.trans (BW.out.mono HB8.size)
                go_simp
                refine (PV.out _ x1).mono ?_
                rintro e v9 ⟨rfl, T9, hg⟩
                have n2 := x1.map.ne (x2.1 0 _ rfl)
                have n3 := x1.map.ne (x3.1 0 _ rfl)
                have q9 := x2.grown hg (fun e => n2 (by cases e; rfl))
                have N9 := x3.grown hg (fun e => n3 (by cases e; rfl))
                have TC9 := x4.other x1.map MN.out hg
                have HB9 := x5.grown hg x5.size (fun k e => by cases e; exact LM.out)
                clear x1 x2 x3 x4 x5 n2 n3 hg BW T8 q8 N8 TC8 HB8
                (try go_wp2_with (fail))
                refine hK.out _ _ ?_ (fun hHeld => ?_)
                · exact ⟨q9, N9⟩
                clear hK K
                refine wpAnyH_take (i := 13) (v := ?_) rfl (by kernel_rfl) (by kernel_rfl) (by kernel_rfl) (fun _ _ _ h => h) (Or.inl ⟨by rfl, ?_⟩) (by assumption) ?_
                rotate_left
                · (intro wS hSw; have d2 := hSw.1.1 2 _ rfl; have d3 := hSw.1.1 3 _ rfl; have d4 := hSw.1.1 4 _ rfl; have d5 := hSw.1.1 5 _ rfl; have d6 := hSw.1.1 6 _ rfl; have d7 := hSw.1.1 7 _ rfl; have d8 := hSw.1.1 8 _ rfl; have d9 := hSw.1.1 9 _ rfl; have d10 := hSw.1.1 10 _ rfl; have d11 := hSw.1.1 11 _ rfl; have d12 := hSw.1.1 12 _ rfl; have c0 := hSw.2.1 0 _ rfl; have c1 := hSw.2.1 1 _ rfl; have c2 := hSw.2.1 2 _ rfl; have c3 := hSw.2.1 3 _ rfl; have c4 := hSw.2.1 4 _ rfl; have c5 := hSw.2.1 5 _ rfl; have c6 := hSw.2.1 6 _ rfl; have c7 := hSw.2.1 7 _ rfl; have zz := EQ.out wS; go_simp; try with_reducible rfl)
                change wpAnyH _ _ _ _ _ _ _ (Act.put _ (some 84) _) _
                simp only [Act.put, List.setIfInBounds_toArray, List.set_cons_zero, List.set_cons_succ]
                refine wpAnyH_take (i := 14) (v := ?_) rfl (by kernel_rfl) (by kernel_rfl) (by kernel_rfl) (fun _ _ _ h => h) (Or.inl ⟨by rfl, ?_⟩) (by assumption) ?_
                rotate_left
                · (intro wS hSw; have d2 := hSw.1.1 2 _ rfl; have d3 := hSw.1.1 3 _ rfl; have d4 := hSw.1.1 4 _ rfl; have d5 := hSw.1.1 5 _ rfl; have d6 := hSw.1.1 6 _ rfl; have d7 := hSw.1.1 7 _ rfl; have d8 := hSw.1.1 8 _ rfl; have d9 := hSw.1.1 9 _ rfl; have d10 := hSw.1.1 10 _ rfl; have d11 := hSw.1.1 11 _ rfl; have d12 := hSw.1.1 12 _ rfl; have c0 := hSw.2.1 0 _ rfl; have c1 := hSw.2.1 1 _ rfl; have c2 := hSw.2.1 2 _ rfl; have c3 := hSw.2.1 3 _ rfl; have c4 := hSw.2.1 4 _ rfl; have c5 := hSw.2.1 5 _ rfl; have c6 := hSw.2.1 6 _ rfl; have c7 := hSw.2.1 7 _ rfl; have zz := EQ.out wS; go_simp; try with_reducible rfl)
                change wpAnyH _ _ _ _ _ _ _ (Act.put _ (some 85) _) _
                simp only [Act.put, List.setIfInBounds_toArray, List.set_cons_zero, List.set_cons_succ]
                refine wpAnyH_done (by kernel_rfl) ?_ _
                refine NoPanic.normal ?_
                go_wp2_with (fail)
                refine (SM.out v9 b' m' T9 TC9).mono ?_
                rintro e v10 ⟨rfl, hb⟩
                go_wp2
                go_ret
                exact ⟨rfl, HB9.trans (hb.mono HB9.size)⟩
              · obtain rfl : ms = ls := NO.out e0
                clear OKC NO PU
                go_wp2_with (fail)
                refine (SM.out w8 b' m' T8 TC8).mono ?_
                rintro e v10 ⟨rfl, hb⟩
                go_wp2
                go_ret
                exact ⟨rfl, HB8.trans (hb.mono HB8.size)⟩
            ·
              go_simp
              obtain ⟨ph, hph⟩ : ∃ ph, ph = v1.heap.size := ⟨_, rfl⟩
              have BW' : Hid (Below wr.heap.size wr (v1.alloc (.cells #[.int .i64 0, .int .i64 0, .int .i64 0, .int .i64 0, .int .i64 0, .int .i64 0, .int .i64 0, .int .i64 0] 47))) := BW.out.alloc BW.out.size _
              have TC' : Hid (Tb (v1.alloc (.cells #[.int .i64 0, .int .i64 0, .int .i64 0, .int .i64 0, .int .i64 0, .int .i64 0, .int .i64 0, .int .i64 0] 47)) b' m' zs ls) := Tb.alloc TC.out _
              have MN' : Hid (m' ≠ m) := MN.out
              have N12' : Hid (Cs (v1.alloc (.cells #[.int .i64 0, .int .i64 0, .int .i64 0, .int .i64 0, .int .i64 0, .int .i64 0, .int .i64 0, .int .i64 0] 47)) ph (spL nought) ∧ wr.heap.size ≤ ph) := by rw [hph]; exact ⟨Cs.new _ _ _ _ rfl, BW.out.size⟩
              have DD' : Hid (∀ w9, (v1.alloc (.cells #[.int .i64 0, .int .i64 0, .int .i64 0, .int .i64 0, .int .i64 0, .int .i64 0, .int .i64 0, .int .i64 0] 47)).grownBy w9 (some ph) → Tb w9 b' m' zs ls) := by rw [hph]; exact fun w9 hg => Tb.later (((Below.refl _ _).alloc (Nat.le_refl _) _).grown hg ((Below.refl _ _).alloc (Nat.le_refl _) _).size (fun k e => by cases e; exact Nat.le_refl _)) TC.out
              clear BW TC MN
              have BW := BW'
              clear BW'
              have TC := TC'
              clear TC'
              have MN := MN'
              clear MN'
              have N12 := N12'
              clear N12'
              have DD := DD'
              clear DD'
              refine hK.out _ _ ?_ (fun hHeld => ?_)
              · exact Cs.later BW.out q5
              clear hK K
              rw [← hph]
              clear hph
              generalize v1.alloc (.cells #[.int .i64 0, .int .i64 0, .int .i64 0, .int .i64 0, .int .i64 0, .int .i64 0, .int .i64 0, .int .i64 0] 47) = wA5 at *
              refine wpAnyH_ready (rs := [5]) (by kernel_rfl) (by simp) ?_
              refine AllReadyH.cons rfl (fun K hK => ?_) AllReadyH.nil
              go_simp
              refine (HL.out _ (Tb.later BW.out T)).mono ?_
              rintro e v6 ⟨rfl, hv6⟩
              have BW' : Hid (Below wr.heap.size wr v6) := BW.out.trans (hv6.mono BW.out.size)
              have TC' : Hid (Tb v6 b' m' zs ls) := Tb.later hv6 TC.out
              have MN' : Hid (m' ≠ m) := MN.out
              have N12' : Hid (Cs v6 ph (spL nought) ∧ wr.heap.size ≤ ph) := ⟨Cs.later hv6 N12.out.1, N12.out.2⟩
              have DD' : Hid (∀ w9, v6.grownBy w9 (some ph) → Tb w9 b' m' zs ls) := fun w9 hg => DD.out w9 (grown_trans ((below_grown hv6).but _) hg)
              clear hv6 BW TC MN N12 DD
              have BW := BW'
              clear BW'
              have TC := TC'
              clear TC'
              have MN := MN'
              clear MN'
              have N12 := N12'
              clear N12'
              have DD := DD'
              clear DD'
              (try go_wp2_with (fail))
              refine hK.out _ _ ?_ (fun hHeld => ?_)
              · exact Cs.later BW.out q5
              clear hK K
              refine wpAnyH_take (i := 7) (v := ?_) rfl (by kernel_rfl) (by kernel_rfl) (by kernel_rfl) (fun _ _ _ h => h) (Or.inl ⟨by rfl, ?_⟩) (by assumption) ?_
              rotate_left
              · (intro wS hSw; have d2 := hSw.1 2 _ rfl; have d3 := hSw.1 3 _ rfl; have d4 := hSw.1 4 _ rfl; go_simp; try with_reducible rfl)
              change wpAnyH _ _ _ _ _ _ _ (Act.put _ (some 11) _) _
              simp only [Act.put, List.setIfInBounds_toArray, List.set_cons_zero, List.set_cons_succ]
              refine wpAnyH_ready (rs := [8]) (by kernel_rfl) (by simp) ?_
              refine AllReadyH.cons rfl (fun K hK => ?_) AllReadyH.nil
              have c0 := N12.out.1.1 0 _ rfl
              have c1 := N12.out.1.1 1 _ rfl
              have c2 := N12.out.1.1 2 _ rfl
              have c3 := N12.out.1.1 3 _ rfl
              have c4 := N12.out.1.1 4 _ rfl
              have c5 := N12.out.1.1 5 _ rfl
              have c6 := N12.out.1.1 6 _ rfl
              have c7 := N12.out.1.1 7 _ rfl
              have f0 := N12.out.1.2.1 0 (by show 0 < 8; omega)
              have f1 := N12.out.1.2.1 1 (by show 1 < 8; omega)
              have f2 := N12.out.1.2.1 2 (by show 2 < 8; omega)
              have f3 := N12.out.1.2.1 3 (by show 3 < 8; omega)
              have f4 := N12.out.1.2.1 4 (by show 4 < 8; omega)
              have f5 := N12.out.1.2.1 5 (by show 5 < 8; omega)
              have f6 := N12.out.1.2.1 6 (by show 6 < 8; omega)
              have f7 := N12.out.1.2.1 7 (by show 7 < 8; omega)
              have BW' : Hid (Below wr.heap.size wr ((((((((v6.setCell ⟨ph, 0, none⟩ (.int .i64 (H 0))).setCell ⟨ph, 1, none⟩ (.int .i64 (H 1))).setCell ⟨ph, 2, none⟩ (.int .i64 (H 2))).setCell ⟨ph, 3, none⟩ (.int .i64 (H 3))).setCell ⟨ph, 4, none⟩ (.int .i64 (H 4))).setCell ⟨ph, 5, none⟩ (.int .i64 (H 5))).setCell ⟨ph, 6, none⟩ (.int .i64 (H 6))).setCell ⟨ph, 7, none⟩ (.int .i64 (H 7)))) := below_put8 BW.out N12.out.2 H
              have N12' : Hid (Cs ((((((((v6.setCell ⟨ph, 0, none⟩ (.int .i64 (H 0))).setCell ⟨ph, 1, none⟩ (.int .i64 (H 1))).setCell ⟨ph, 2, none⟩ (.int .i64 (H 2))).setCell ⟨ph, 3, none⟩ (.int .i64 (H 3))).setCell ⟨ph, 4, none⟩ (.int .i64 (H 4))).setCell ⟨ph, 5, none⟩ (.int .i64 (H 5))).setCell ⟨ph, 6, none⟩ (.int .i64 (H 6))).setCell ⟨ph, 7, none⟩ (.int .i64 (H 7))) ph (spL H)) := cs_put8 N12.out.1 H
              have TC' : Hid (Tb ((((((((v6.setCell ⟨ph, 0, none⟩ (.int .i64 (H 0))).setCell ⟨ph, 1, none⟩ (.int .i64 (H 1))).setCell ⟨ph, 2, none⟩ (.int .i64 (H 2))).setCell ⟨ph, 3, none⟩ (.int .i64 (H 3))).setCell ⟨ph, 4, none⟩ (.int .i64 (H 4))).setCell ⟨ph, 5, none⟩ (.int .i64 (H 5))).setCell ⟨ph, 6, none⟩ (.int .i64 (H 6))).setCell ⟨ph, 7, none⟩ (.int .i64 (H 7))) b' m' zs ls) := DD.out _ (own_set8 v6 ph H)
              clear N12 BW TC DD
              have BW := BW'
              have N12 := N12'
              have TC := TC'
              clear BW' N12' TC'
              go_wp2_with (fail)
              refine hK.out _ _ ?_ (fun hHeld => ?_)
              · exact Cs.later BW.out q5
              clear hK K c0 f0 c1 f1 c2 f2 c3 f3 c4 f4 c5 f5 c6 f6 c7 f7
              generalize ((((((((v6.setCell ⟨ph, 0, none⟩ (.int .i64 (H 0))).setCell ⟨ph, 1, none⟩ (.int .i64 (H 1))).setCell ⟨ph, 2, none⟩ (.int .i64 (H 2))).setCell ⟨ph, 3, none⟩ (.int .i64 (H 3))).setCell ⟨ph, 4, none⟩ (.int .i64 (H 4))).setCell ⟨ph, 5, none⟩ (.int .i64 (H 5))).setCell ⟨ph, 6, none⟩ (.int .i64 (H 6))).setCell ⟨ph, 7, none⟩ (.int .i64 (H 7))) = wS at *
              refine wpAnyH_done (by kernel_rfl) ?_ _
              refine NoPanic.normal ?_
              have T7 := Tb.later BW.out T
              have q7 := Cs.later BW.out q5
              have HB7 := HB.trans (BW.out.mono HB.size)
              have d2 := q7.1 2 _ rfl
              have d3 := q7.1 3 _ rfl
              have d4 := q7.1 4 _ rfl
              have d5 := q7.1 5 _ rfl
              have d6 := q7.1 6 _ rfl
              have d7 := q7.1 7 _ rfl
              have d8 := q7.1 8 _ rfl
              have d9 := q7.1 9 _ rfl
              have d10 := q7.1 10 _ rfl
              have d11 := q7.1 11 _ rfl
              have d12 := q7.1 12 _ rfl
              have dz := q7.2.2
              clear BW
              go_wp2_with (fail)
              refine (PU.out wS T7).mono ?_
              rintro e w8 ⟨rfl, T8, hg⟩
              have n2 := T7.map.ne (q7.1 0 _ rfl)
              have n3 := T7.map.ne (N12.out.1 0 _ rfl)
              have q8 := q7.grown hg (fun e => n2 (by cases e; rfl))
              have N8 := N12.out.grown hg (fun e => n3 (by cases e; rfl))
              have TC8 := TC.out.other T7.map MN.out hg
              have HB8 := HB7.grown hg HB7.size (fun k e => by cases e; exact LM.out)
              clear T7 q7 HB7 hg n2 n3 N12 TC dz d2 d3 d4 d5 d6 d7 d8 d9 d10 d11 d12
              by_cases e0 : E = 0
              · obtain ⟨HV, PV, EQ⟩ := OKC.out e0
                go_upto_region 17 with (fail)
                have BW : Hid (Below w8.heap.size w8 _) := Below.drew (Below.refl _ _)
                refine wp_region_noPanic ?_
                refine wp_region_held_drew (S := fun w' => Cs w' b5 (opL q) ∧ Cs w' ph (spL H)) (by kernel_rfl) ?_ (fun hHeld => ?_)
                · exact ⟨Cs.later BW.out q8, Cs.later BW.out N8⟩
                generalize World.drew _ = wd0 at *
                refine wpAnyH_take (i := 0) (v := ?_) rfl (by kernel_rfl) (by kernel_rfl) (by kernel_rfl) (fun _ _ _ h => h) (Or.inl ⟨by rfl, ?_⟩) (by assumption) ?_
                rotate_left
                · (intro wS hSw; have d2 := hSw.1.1 2 _ rfl; have d3 := hSw.1.1 3 _ rfl; have d4 := hSw.1.1 4 _ rfl; have d5 := hSw.1.1 5 _ rfl; have d6 := hSw.1.1 6 _ rfl; have d7 := hSw.1.1 7 _ rfl; have d8 := hSw.1.1 8 _ rfl; have d9 := hSw.1.1 9 _ rfl; have d10 := hSw.1.1 10 _ rfl; have d11 := hSw.1.1 11 _ rfl; have d12 := hSw.1.1 12 _ rfl; have c0 := hSw.2.1 0 _ rfl; have c1 := hSw.2.1 1 _ rfl; have c2 := hSw.2.1 2 _ rfl; have c3 := hSw.2.1 3 _ rfl; have c4 := hSw.2.1 4 _ rfl; have c5 := hSw.2.1 5 _ rfl; have c6 := hSw.2.1 6 _ rfl; have c7 := hSw.2.1 7 _ rfl; have zz := EQ.out wS; go_simp; try with_reducible rfl)
                change wpAnyH _ _ _ _ _ _ _ (Act.put _ (some 71) _) _
                simp only [Act.put, List.setIfInBounds_toArray, List.set_cons_zero, List.set_cons_succ]
                refine wpAnyH_take (i := 1) (v := ?_) rfl (by kernel_rfl) (by kernel_rfl) (by kernel_rfl) (fun _ _ _ h => h) (Or.inl ⟨by rfl, ?_⟩) (by assumption) ?_
                rotate_left
                · (intro wS hSw; have d2 := hSw.1.1 2 _ rfl; have d3 := hSw.1.1 3 _ rfl; have d4 := hSw.1.1 4 _ rfl; have d5 := hSw.1.1 5 _ rfl; have d6 := hSw.1.1 6 _ rfl; have d7 := hSw.1.1 7 _ rfl; have d8 := hSw.1.1 8 _ rfl; have d9 := hSw.1.1 9 _ rfl; have d10 := hSw.1.1 10 _ rfl; have d11 := hSw.1.1 11 _ rfl; have d12 := hSw.1.1 12 _ rfl; have c0 := hSw.2.1 0 _ rfl; have c1 := hSw.2.1 1 _ rfl; have c2 := hSw.2.1 2 _ rfl; have c3 := hSw.2.1 3 _ rfl; have c4 := hSw.2.1 4 _ rfl; have c5 := hSw.2.1 5 _ rfl; have c6 := hSw.2.1 6 _ rfl; have c7 := hSw.2.1 7 _ rfl; have zz := EQ.out wS; go_simp; try with_reducible rfl)
                change wpAnyH _ _ _ _ _ _ _ (Act.put _ (some 72) _) _
                simp only [Act.put, List.setIfInBounds_toArray, List.set_cons_zero, List.set_cons_succ]
                refine wpAnyH_take (i := 2) (v := ?_) rfl (by kernel_rfl) (by kernel_rfl) (by kernel_rfl) (fun _ _ _ h => h) (Or.inl ⟨by rfl, ?_⟩) (by assumption) ?_
                rotate_left
                · (intro wS hSw; have d2 := hSw.1.1 2 _ rfl; have d3 := hSw.1.1 3 _ rfl; have d4 := hSw.1.1 4 _ rfl; have d5 := hSw.1.1 5 _ rfl; have d6 := hSw.1.1 6 _ rfl; have d7 := hSw.1.1 7 _ rfl; have d8 := hSw.1.1 8 _ rfl; have d9 := hSw.1.1 9 _ rfl; have d10 := hSw.1.1 10 _ rfl; have d11 := hSw.1.1 11 _ rfl; have d12 := hSw.1.1 12 _ rfl; have c0 := hSw.2.1 0 _ rfl; have c1 := hSw.2.1 1 _ rfl; have c2 := hSw.2.1 2 _ rfl; have c3 := hSw.2.1 3 _ rfl; have c4 := hSw.2.1 4 _ rfl; have c5 := hSw.2.1 5 _ rfl; have c6 := hSw.2.1 6 _ rfl; have c7 := hSw.2.1 7 _ rfl; have zz := EQ.out wS; go_simp; try with_reducible rfl)
                change wpAnyH _ _ _ _ _ _ _ (Act.put _ (some 73) _) _
                simp only [Act.put, List.setIfInBounds_toArray, List.set_cons_zero, List.set_cons_succ]
                refine wpAnyH_take (i := 4) (v := ?_) rfl (by kernel_rfl) (by kernel_rfl) (by kernel_rfl) (fun _ _ _ h => h) (Or.inl ⟨by rfl, ?_⟩) (by assumption) ?_
                rotate_left
                · (intro wS hSw; have d2 := hSw.1.1 2 _ rfl; have d3 := hSw.1.1 3 _ rfl; have d4 := hSw.1.1 4 _ rfl; have d5 := hSw.1.1 5 _ rfl; have d6 := hSw.1.1 6 _ rfl; have d7 := hSw.1.1 7 _ rfl; have d8 := hSw.1.1 8 _ rfl; have d9 := hSw.1.1 9 _ rfl; have d10 := hSw.1.1 10 _ rfl; have d11 := hSw.1.1 11 _ rfl; have d12 := hSw.1.1 12 _ rfl; have c0 := hSw.2.1 0 _ rfl; have c1 := hSw.2.1 1 _ rfl; have c2 := hSw.2.1 2 _ rfl; have c3 := hSw.2.1 3 _ rfl; have c4 := hSw.2.1 4 _ rfl; have c5 := hSw.2.1 5 _ rfl; have c6 := hSw.2.1 6 _ rfl; have c7 := hSw.2.1 7 _ rfl; have zz := EQ.out wS; go_simp; try with_reducible rfl)
                change wpAnyH _ _ _ _ _ _ _ (Act.put _ (some 75) _) _
                simp only [Act.put, List.setIfInBounds_toArray, List.set_cons_zero, List.set_cons_succ]
                refine wpAnyH_take (i := 5) (v := ?_) rfl (by kernel_rfl) (by kernel_rfl) (by kernel_rfl) (fun _ _ _ h => h) (Or.inl ⟨by rfl, ?_⟩) (by assumption) ?_
                rotate_left
                · (intro wS hSw; have d2 := hSw.1.1 2 _ rfl; have d3 := hSw.1.1 3 _ rfl; have d4 := hSw.1.1 4 _ rfl; have d5 := hSw.1.1 5 _ rfl; have d6 := hSw.1.1 6 _ rfl; have d7 := hSw.1.1 7 _ rfl; have d8 := hSw.1.1 8 _ rfl; have d9 := hSw.1.1 9 _ rfl; have d10 := hSw.1.1 10 _ rfl; have d11 := hSw.1.1 11 _ rfl; have d12 := hSw.1.1 12 _ rfl; have c0 := hSw.2.1 0 _ rfl; have c1 := hSw.2.1 1 _ rfl; have c2 := hSw.2.1 2 _ rfl; have c3 := hSw.2.1 3 _ rfl; have c4 := hSw.2.1 4 _ rfl; have c5 := hSw.2.1 5 _ rfl; have c6 := hSw.2.1 6 _ rfl; have c7 := hSw.2.1 7 _ rfl; have zz := EQ.out wS; go_simp; try with_reducible rfl)
                change wpAnyH _ _ _ _ _ _ _ (Act.put _ (some 76) _) _
                simp only [Act.put, List.setIfInBounds_toArray, List.set_cons_zero, List.set_cons_succ]
                refine wpAnyH_ready (rs := [3]) (by kernel_rfl) (by simp) ?_
                refine AllReadyH.cons rfl (fun K hK => ?_) AllReadyH.nil
                go_simp
                refine (HV.out _ (Tb.later BW.out T8)).mono ?_
                rintro e v1 ⟨rfl, hv1⟩
                have BW' : Hid (Below w8.heap.size w8 v1) := BW.out.trans (hv1.mono BW.out.size)
                clear hv1 BW
                have BW := BW'
                clear BW'
                (try go_wp2_with (fail))
                refine hK.out _ _ ?_ (fun hHeld => ?_)
                · exact ⟨Cs.later BW.out q8, Cs.later BW.out N8⟩
                clear hK K
                refine wpAnyH_take (i := 6) (v := ?_) rfl (by kernel_rfl) (by kernel_rfl) (by kernel_rfl) (fun _ _ _ h => h) (Or.inl ⟨by rfl, ?_⟩) (by assumption) ?_
                rotate_left
                · (intro wS hSw; have d2 := hSw.1.1 2 _ rfl; have d3 := hSw.1.1 3 _ rfl; have d4 := hSw.1.1 4 _ rfl; have d5 := hSw.1.1 5 _ rfl; have d6 := hSw.1.1 6 _ rfl; have d7 := hSw.1.1 7 _ rfl; have d8 := hSw.1.1 8 _ rfl; have d9 := hSw.1.1 9 _ rfl; have d10 := hSw.1.1 10 _ rfl; have d11 := hSw.1.1 11 _ rfl; have d12 := hSw.1.1 12 _ rfl; have c0 := hSw.2.1 0 _ rfl; have c1 := hSw.2.1 1 _ rfl; have c2 := hSw.2.1 2 _ rfl; have c3 := hSw.2.1 3 _ rfl; have c4 := hSw.2.1 4 _ rfl; have c5 := hSw.2.1 5 _ rfl; have c6 := hSw.2.1 6 _ rfl; have c7 := hSw.2.1 7 _ rfl; have zz := EQ.out wS; go_simp; try with_reducible rfl)
                change wpAnyH _ _ _ _ _ _ _ (Act.put _ (some 77) _) _
                simp only [Act.put, List.setIfInBounds_toArray, List.set_cons_zero, List.set_cons_succ]
                refine wpAnyH_take (i := 7) (v := ?_) rfl (by kernel_rfl) (by kernel_rfl) (by kernel_rfl) (fun _ _ _ h => h) (Or.inl ⟨by rfl, ?_⟩) (by assumption) ?_
                rotate_left
                · (intro wS hSw; have d2 := hSw.1.1 2 _ rfl; have d3 := hSw.1.1 3 _ rfl; have d4 := hSw.1.1 4 _ rfl; have d5 := hSw.1.1 5 _ rfl; have d6 := hSw.1.1 6 _ rfl; have d7 := hSw.1.1 7 _ rfl; have d8 := hSw.1.1 8 _ rfl; have d9 := hSw.1.1 9 _ rfl; have d10 := hSw.1.1 10 _ rfl; have d11 := hSw.1.1 11 _ rfl; have d12 := hSw.1.1 12 _ rfl; have c0 := hSw.2.1 0 _ rfl; have c1 := hSw.2.1 1 _ rfl; have c2 := hSw.2.1 2 _ rfl; have c3 := hSw.2.1 3 _ rfl; have c4 := hSw.2.1 4 _ rfl; have c5 := hSw.2.1 5 _ rfl; have c6 := hSw.2.1 6 _ rfl; have c7 := hSw.2.1 7 _ rfl; have zz := EQ.out wS; go_simp; try with_reducible rfl)
                change wpAnyH _ _ _ _ _ _ _ (Act.put _ (some 78) _) _
                simp only [Act.put, List.setIfInBounds_toArray, List.set_cons_zero, List.set_cons_succ]
                refine wpAnyH_take (i := 8) (v := ?_) rfl (by kernel_rfl) (by kernel_rfl) (by kernel_rfl) (fun _ _ _ h => h) (Or.inl ⟨by rfl, ?_⟩) (by assumption) ?_
                rotate_left
                · (intro wS hSw; have d2 := hSw.1.1 2 _ rfl; have d3 := hSw.1.1 3 _ rfl; have d4 := hSw.1.1 4 _ rfl; have d5 := hSw.1.1 5 _ rfl; have d6 := hSw.1.1 6 _ rfl; have d7 := hSw.1.1 7 _ rfl; have d8 := hSw.1.1 8 _ rfl; have d9 := hSw.1.1 9 _ rfl; have d10 := hSw.1.1 10 _ rfl; have d11 := hSw.1.1 11 _ rfl; have d12 := hSw.1.1 12 _ rfl; have c0 := hSw.2.1 0 _ rfl; have c1 := hSw.2.1 1 _ rfl; have c2 := hSw.2.1 2 _ rfl; have c3 := hSw.2.1 3 _ rfl; have c4 := hSw.2.1 4 _ rfl; have c5 := hSw.2.1 5 _ rfl; have c6 := hSw.2.1 6 _ rfl; have c7 := hSw.2.1 7 _ rfl; have zz := EQ.out wS; go_simp; try with_reducible rfl)
                change wpAnyH _ _ _ _ _ _ _ (Act.put _ (some 79) _) _
                simp only [Act.put, List.setIfInBounds_toArray, List.set_cons_zero, List.set_cons_succ]
                refine wpAnyH_take (i := 9) (v := ?_) rfl (by kernel_rfl) (by kernel_rfl) (by kernel_rfl) (fun _ _ _ h => h) (Or.inl ⟨by rfl, ?_⟩) (by assumption) ?_
                rotate_left
                · (intro wS hSw; have d2 := hSw.1.1 2 _ rfl; have d3 := hSw.1.1 3 _ rfl; have d4 := hSw.1.1 4 _ rfl; have d5 := hSw.1.1 5 _ rfl; have d6 := hSw.1.1 6 _ rfl; have d7 := hSw.1.1 7 _ rfl; have d8 := hSw.1.1 8 _ rfl; have d9 := hSw.1.1 9 _ rfl; have d10 := hSw.1.1 10 _ rfl; have d11 := hSw.1.1 11 _ rfl; have d12 := hSw.1.1 12 _ rfl; have c0 := hSw.2.1 0 _ rfl; have c1 := hSw.2.1 1 _ rfl; have c2 := hSw.2.1 2 _ rfl; have c3 := hSw.2.1 3 _ rfl; have c4 := hSw.2.1 4 _ rfl; have c5 := hSw.2.1 5 _ rfl; have c6 := hSw.2.1 6 _ rfl; have c7 := hSw.2.1 7 _ rfl; have zz := EQ.out wS; go_simp; try with_reducible rfl)
                change wpAnyH _ _ _ _ _ _ _ (Act.put _ (some 80) _) _
                simp only [Act.put, List.setIfInBounds_toArray, List.set_cons_zero, List.set_cons_succ]
                refine wpAnyH_take (i := 10) (v := ?_) rfl (by kernel_rfl) (by kernel_rfl) (by kernel_rfl) (fun _ _ _ h => h) (Or.inl ⟨by rfl, ?_⟩) (by assumption) ?_
                rotate_left
                · (intro wS hSw; have d2 := hSw.1.1 2 _ rfl; have d3 := hSw.1.1 3 _ rfl; have d4 := hSw.1.1 4 _ rfl; have d5 := hSw.1.1 5 _ rfl; have d6 := hSw.1.1 6 _ rfl; have d7 := hSw.1.1 7 _ rfl; have d8 := hSw.1.1 8 _ rfl; have d9 := hSw.1.1 9 _ rfl; have d10 := hSw.1.1 10 _ rfl; have d11 := hSw.1.1 11 _ rfl; have d12 := hSw.1.1 12 _ rfl; have c0 := hSw.2.1 0 _ rfl; have c1 := hSw.2.1 1 _ rfl; have c2 := hSw.2.1 2 _ rfl; have c3 := hSw.2.1 3 _ rfl; have c4 := hSw.2.1 4 _ rfl; have c5 := hSw.2.1 5 _ rfl; have c6 := hSw.2.1 6 _ rfl; have c7 := hSw.2.1 7 _ rfl; have zz := EQ.out wS; go_simp; try with_reducible rfl)
                change wpAnyH _ _ _ _ _ _ _ (Act.put _ (some 81) _) _
                simp only [Act.put, List.setIfInBounds_toArray, List.set_cons_zero, List.set_cons_succ]
                refine wpAnyH_take (i := 11) (v := ?_) rfl (by kernel_rfl) (by kernel_rfl) (by kernel_rfl) (fun _ _ _ h => h) (Or.inl ⟨by rfl, ?_⟩) (by assumption) ?_
                rotate_left
                · (intro wS hSw; have d2 := hSw.1.1 2 _ rfl; have d3 := hSw.1.1 3 _ rfl; have d4 := hSw.1.1 4 _ rfl; have d5 := hSw.1.1 5 _ rfl; have d6 := hSw.1.1 6 _ rfl; have d7 := hSw.1.1 7 _ rfl; have d8 := hSw.1.1 8 _ rfl; have d9 := hSw.1.1 9 _ rfl; have d10 := hSw.1.1 10 _ rfl; have d11 := hSw.1.1 11 _ rfl; have d12 := hSw.1.1 12 _ rfl; have c0 := hSw.2.1 0 _ rfl; have c1 := hSw.2.1 1 _ rfl; have c2 := hSw.2.1 2 _ rfl; have c3 := hSw.2.1 3 _ rfl; have c4 := hSw.2.1 4 _ rfl; have c5 := hSw.2.1 5 _ rfl; have c6 := hSw.2.1 6 _ rfl; have c7 := hSw.2.1 7 _ rfl; have zz := EQ.out wS; go_simp; try with_reducible rfl)
                change wpAnyH _ _ _ _ _ _ _ (Act.put _ (some 82) _) _
                simp only [Act.put, List.setIfInBounds_toArray, List.set_cons_zero, List.set_cons_succ]
                refine wpAnyH_ready (rs := [12]) (by kernel_rfl) (by simp) ?_
                refine AllReadyH.cons rfl (fun K hK => ?_) AllReadyH.nil
                have x1 := Tb.later BW.out T8
                have x2 := Cs.later BW.out q8
                have x3 := Cs.later BW.out N8
                have x4 := Tb.later BW.out TC8
                have x5 := HB8.trans (BW.out.mono HB8.size)
                go_simp
                refine (PV.out _ x1).mono ?_
                rintro e v9 ⟨rfl, T9, hg⟩
                have n2 := x1.map.ne (x2.1 0 _ rfl)
                have n3 := x1.map.ne (x3.1 0 _ rfl)
                have q9 := x2.grown hg (fun e => n2 (by cases e; rfl))
                have N9 := x3.grown hg (fun e => n3 (by cases e; rfl))
                have TC9 := x4.other x1.map MN.out hg
                have HB9 := x5.grown hg x5.size (fun k e => by cases e; exact LM.out)
                clear x1 x2 x3 x4 x5 n2 n3 hg BW T8 q8 N8 TC8 HB8
                (try go_wp2_with (fail))
                refine hK.out _ _ ?_ (fun hHeld => ?_)
                · exact ⟨q9, N9⟩
                clear hK K
                refine wpAnyH_take (i := 13) (v := ?_) rfl (by kernel_rfl) (by kernel_rfl) (by kernel_rfl) (fun _ _ _ h => h) (Or.inl ⟨by rfl, ?_⟩) (by assumption) ?_
                rotate_left
                · (intro wS hSw; have d2 := hSw.1.1 2 _ rfl; have d3 := hSw.1.1 3 _ rfl; have d4 := hSw.1.1 4 _ rfl; have d5 := hSw.1.1 5 _ rfl; have d6 := hSw.1.1 6 _ rfl; have d7 := hSw.1.1 7 _ rfl; have d8 := hSw.1.1 8 _ rfl; have d9 := hSw.1.1 9 _ rfl; have d10 := hSw.1.1 10 _ rfl; have d11 := hSw.1.1 11 _ rfl; have d12 := hSw.1.1 12 _ rfl; have c0 := hSw.2.1 0 _ rfl; have c1 := hSw.2.1 1 _ rfl; have c2 := hSw.2.1 2 _ rfl; have c3 := hSw.2.1 3 _ rfl; have c4 := hSw.2.1 4 _ rfl; have c5 := hSw.2.1 5 _ rfl; have c6 := hSw.2.1 6 _ rfl; have c7 := hSw.2.1 7 _ rfl; have zz := EQ.out wS; go_simp; try with_reducible rfl)
                change wpAnyH _ _ _ _ _ _ _ (Act.put _ (some 84) _) _
                simp only [Act.put, List.setIfInBounds_toArray, List.set_cons_zero, List.set_cons_succ]
                refine wpAnyH_take (i := 14) (v := ?_) rfl (by kernel_rfl) (by kernel_rfl) (by kernel_rfl) (fun _ _ _ h => h) (Or.inl ⟨by rfl, ?_⟩) (by assumption) ?_
                rotate_left
                · (intro wS hSw; have d2 := hSw.1.1 2 _ rfl; have d3 := hSw.1.1 3 _ rfl; have d4 := hSw.1.1 4 _ rfl; have d5 := hSw.1.1 5 _ rfl; have d6 := hSw.1.1 6 _ rfl; have d7 := hSw.1.1 7 _ rfl; have d8 := hSw.1.1 8 _ rfl; have d9 := hSw.1.1 9 _ rfl; have d10 := hSw.1.1 10 _ rfl; have d11 := hSw.1.1 11 _ rfl; have d12 := hSw.1.1 12 _ rfl; have c0 := hSw.2.1 0 _ rfl; have c1 := hSw.2.1 1 _ rfl; have c2 := hSw.2.1 2 _ rfl; have c3 := hSw.2.1 3 _ rfl; have c4 := hSw.2.1 4 _ rfl; have c5 := hSw.2.1 5 _ rfl; have c6 := hSw.2.1 6 _ rfl; have c7 := hSw.2.1 7 _ rfl; have zz := EQ.out wS; go_simp; try with_reducible rfl)
                change wpAnyH _ _ _ _ _ _ _ (Act.put _ (some 85) _) _
                simp only [Act.put, List.setIfInBounds_toArray, List.set_cons_zero, List.set_cons_succ]
                refine wpAnyH_done (by kernel_rfl) ?_ _
                refine NoPanic.normal ?_
                go_wp2_with (fail)
                refine (SM.out v9 b' m' T9 TC9).mono ?_
                rintro e v10 ⟨rfl, hb⟩
                go_wp2
                go_ret
                exact ⟨rfl, HB9.trans (hb.mono HB9.size)⟩
              · obtain rfl : ms = ls := NO.out e0
                clear OKC NO PU
                go_wp2_with (fail)
                refine (SM.out w8 b' m' T8 TC8).mono ?_
                rintro e v10 ⟨rfl, hb⟩
                go_wp2
                go_ret
                exact ⟨rfl, HB8.trans (hb.mono HB8.size)⟩
          ·
            go_simp
            obtain ⟨ph, hph⟩ : ∃ ph, ph = wd0.heap.size := ⟨_, rfl⟩
            have BW' : Hid (Below wr.heap.size wr (wd0.alloc (.cells #[.int .i64 0, .int .i64 0, .int .i64 0, .int .i64 0, .int .i64 0, .int .i64 0, .int .i64 0, .int .i64 0] 47))) := BW.out.alloc BW.out.size _
            have N12' : Hid (Cs (wd0.alloc (.cells #[.int .i64 0, .int .i64 0, .int .i64 0, .int .i64 0, .int .i64 0, .int .i64 0, .int .i64 0, .int .i64 0] 47)) ph (spL nought) ∧ wr.heap.size ≤ ph) := by rw [hph]; exact ⟨Cs.new _ _ _ _ rfl, BW.out.size⟩
            clear BW
            have BW := BW'
            clear BW'
            have N12 := N12'
            clear N12'
            refine hK.out _ _ ?_ (fun hHeld => ?_)
            · exact Cs.later BW.out q5
            clear hK K
            rw [← hph]
            clear hph
            generalize wd0.alloc (.cells #[.int .i64 0, .int .i64 0, .int .i64 0, .int .i64 0, .int .i64 0, .int .i64 0, .int .i64 0, .int .i64 0] 47) = wA8 at *
            refine wpAnyH_ready (rs := [1]) (by kernel_rfl) (by simp) ?_
            refine AllReadyH.cons rfl (fun K hK => ?_) AllReadyH.nil
            go_simp
            refine (clone_new _ (Tb.later BW.out T)).mono ?_
            rintro e v9 ⟨b', m', rfl, tc, fr, hv9⟩
            have BW' : Hid (Below wr.heap.size wr v9) := BW.out.trans (hv9.mono BW.out.size)
            have N12' : Hid (Cs v9 ph (spL nought) ∧ wr.heap.size ≤ ph) := ⟨Cs.later hv9 N12.out.1, N12.out.2⟩
            have TC' : Hid (Tb v9 b' m' zs ls) := tc
            have MN' : Hid (m' ≠ m) := fun e => by have h1 := fr.2.1; have h2 := BW.out.size; have h3 := T.map.lt; omega
            have DD' : Hid (∀ w9, v9.grownBy w9 (some ph) → Tb w9 b' m' zs ls) := fun w9 hg => tc.beside fr N12.out.1.2.2 hg
            clear hv9 BW N12
            have BW := BW'
            clear BW'
            have N12 := N12'
            clear N12'
            have TC := TC'
            clear TC'
            have MN := MN'
            clear MN'
            have DD := DD'
            clear DD'
            (try go_wp2_with (fail))
            refine hK.out _ _ ?_ (fun hHeld => ?_)
            · exact Cs.later BW.out q5
            clear hK K
            refine wpAnyH_ready (rs := [5]) (by kernel_rfl) (by simp) ?_
            refine AllReadyH.cons rfl (fun K hK => ?_) AllReadyH.nil
            go_simp
            refine (HL.out _ (Tb.later BW.out T)).mono ?_
            rintro e v10 ⟨rfl, hv10⟩
            have BW' : Hid (Below wr.heap.size wr v10) := BW.out.trans (hv10.mono BW.out.size)
            have N12' : Hid (Cs v10 ph (spL nought) ∧ wr.heap.size ≤ ph) := ⟨Cs.later hv10 N12.out.1, N12.out.2⟩
            have TC' : Hid (Tb v10 b' m' zs ls) := Tb.later hv10 TC.out
            have MN' : Hid (m' ≠ m) := MN.out
            have DD' : Hid (∀ w9, v10.grownBy w9 (some ph) → Tb w9 b' m' zs ls) := fun w9 hg => DD.out w9 (grown_trans ((below_grown hv10).but _) hg)
            clear hv10 BW N12 TC MN DD
            have BW := BW'
            clear BW'
            have N12 := N12'
            clear N12'
            have TC := TC'
            clear TC'
            have MN := MN'
            clear MN'
            have DD := DD'
            clear DD'
            (try go_wp2_with (fail))
            refine hK.out _ _ ?_ (fun hHeld => ?_)
            · exact Cs.later BW.out q5
            clear hK K
            refine wpAnyH_take (i := 7) (v := ?_) rfl (by kernel_rfl) (by kernel_rfl) (by kernel_rfl) (fun _ _ _ h => h) (Or.inl ⟨by rfl, ?_⟩) (by assumption) ?_
            rotate_left
            · (intro wS hSw; have d2 := hSw.1 2 _ rfl; have d3 := hSw.1 3 _ rfl; have d4 := hSw.1 4 _ rfl; go_simp; try with_reducible rfl)
            change wpAnyH _ _ _ _ _ _ _ (Act.put _ (some 11) _) _
            simp only [Act.put, List.setIfInBounds_toArray, List.set_cons_zero, List.set_cons_succ]
            refine wpAnyH_ready (rs := [8]) (by kernel_rfl) (by simp) ?_
            refine AllReadyH.cons rfl (fun K hK => ?_) AllReadyH.nil
            have c0 := N12.out.1.1 0 _ rfl
            have c1 := N12.out.1.1 1 _ rfl
            have c2 := N12.out.1.1 2 _ rfl
            have c3 := N12.out.1.1 3 _ rfl
            have c4 := N12.out.1.1 4 _ rfl
            have c5 := N12.out.1.1 5 _ rfl
            have c6 := N12.out.1.1 6 _ rfl
            have c7 := N12.out.1.1 7 _ rfl
            have f0 := N12.out.1.2.1 0 (by show 0 < 8; omega)
            have f1 := N12.out.1.2.1 1 (by show 1 < 8; omega)
            have f2 := N12.out.1.2.1 2 (by show 2 < 8; omega)
            have f3 := N12.out.1.2.1 3 (by show 3 < 8; omega)
            have f4 := N12.out.1.2.1 4 (by show 4 < 8; omega)
            have f5 := N12.out.1.2.1 5 (by show 5 < 8; omega)
            have f6 := N12.out.1.2.1 6 (by show 6 < 8; omega)
            have f7 := N12.out.1.2.1 7 (by show 7 < 8; omega)
            have BW' : Hid (Below wr.heap.size wr ((((((((v10.setCell ⟨ph, 0, none⟩ (.int .i64 (H 0))).setCell ⟨ph, 1, none⟩ (.int .i64 (H 1))).setCell ⟨ph, 2, none⟩ (.int .i64 (H 2))).setCell ⟨ph, 3, none⟩ (.int .i64 (H 3))).setCell ⟨ph, 4, none⟩ (.int .i64 (H 4))).setCell ⟨ph, 5, none⟩ (.int .i64 (H 5))).setCell ⟨ph, 6, none⟩ (.int .i64 (H 6))).setCell ⟨ph, 7, none⟩ (.int .i64 (H 7)))) := below_put8 BW.out N12.out.2 H
            have N12' : Hid (Cs ((((((((v10.setCell ⟨ph, 0, none⟩ (.int .i64 (H 0))).setCell ⟨ph, 1, none⟩ (.int .i64 (H 1))).setCell ⟨ph, 2, none⟩ (.int .i64 (H 2))).setCell ⟨ph, 3, none⟩ (.int .i64 (H 3))).setCell ⟨ph, 4, none⟩ (.int .i64 (H 4))).setCell ⟨ph, 5, none⟩ (.int .i64 (H 5))).setCell ⟨ph, 6, none⟩ (.int .i64 (H 6))).setCell ⟨ph, 7, none⟩ (.int .i64 (H 7))) ph (spL H)) := cs_put8 N12.out.1 H
            have TC' : Hid (Tb ((((((((v10.setCell ⟨ph, 0, none⟩ (.int .i64 (H 0))).setCell ⟨ph, 1, none⟩ (.int .i64 (H 1))).setCell ⟨ph, 2, none⟩ (.int .i64 (H 2))).setCell ⟨ph, 3, none⟩ (.int .i64 (H 3))).setCell ⟨ph, 4, none⟩ (.int .i64 (H 4))).setCell ⟨ph, 5, none⟩ (.int .i64 (H 5))).setCell ⟨ph, 6, none⟩ (.int .i64 (H 6))).setCell ⟨ph, 7, none⟩ (.int .i64 (H 7))) b' m' zs ls) := DD.out _ (own_set8 v10 ph H)
            clear N12 BW TC DD
            have BW := BW'
            have N12 := N12'
            have TC := TC'
            clear BW' N12' TC'
            go_wp2_with (fail)
            refine hK.out _ _ ?_ (fun hHeld => ?_)
            · exact Cs.later BW.out q5
            clear hK K c0 f0 c1 f1 c2 f2 c3 f3 c4 f4 c5 f5 c6 f6 c7 f7
            generalize ((((((((v10.setCell ⟨ph, 0, none⟩ (.int .i64 (H 0))).setCell ⟨ph, 1, none⟩ (.int .i64 (H 1))).setCell ⟨ph, 2, none⟩ (.int .i64 (H 2))).setCell ⟨ph, 3, none⟩ (.int .i64 (H 3))).setCell ⟨ph, 4, none⟩ (.int .i64 (H 4))).setCell ⟨ph, 5, none⟩ (.int .i64 (H 5))).setCell ⟨ph, 6, none⟩ (.int .i64 (H 6))).setCell ⟨ph, 7, none⟩ (.int .i64 (H 7))) = wS at *
            refine wpAnyH_done (by kernel_rfl) ?_ _
            refine NoPanic.normal ?_
            have T7 := Tb.later BW.out T
            have q7 := Cs.later BW.out q5
            have HB7 := HB.trans (BW.out.mono HB.size)
            have d2 := q7.1 2 _ rfl
            have d3 := q7.1 3 _ rfl
            have d4 := q7.1 4 _ rfl
            have d5 := q7.1 5 _ rfl
            have d6 := q7.1 6 _ rfl
            have d7 := q7.1 7 _ rfl
            have d8 := q7.1 8 _ rfl
            have d9 := q7.1 9 _ rfl
            have d10 := q7.1 10 _ rfl
            have d11 := q7.1 11 _ rfl
            have d12 := q7.1 12 _ rfl
            have dz := q7.2.2
            clear BW
            go_wp2_with (fail)
            refine (PU.out wS T7).mono ?_
            rintro e w8 ⟨rfl, T8, hg⟩
            have n2 := T7.map.ne (q7.1 0 _ rfl)
            have n3 := T7.map.ne (N12.out.1 0 _ rfl)
            have q8 := q7.grown hg (fun e => n2 (by cases e; rfl))
            have N8 := N12.out.grown hg (fun e => n3 (by cases e; rfl))
            have TC8 := TC.out.other T7.map MN.out hg
            have HB8 := HB7.grown hg HB7.size (fun k e => by cases e; exact LM.out)
            clear T7 q7 HB7 hg n2 n3 N12 TC dz d2 d3 d4 d5 d6 d7 d8 d9 d10 d11 d12
            by_cases e0 : E = 0
            · obtain ⟨HV, PV, EQ⟩ := OKC.out e0
              go_upto_region 17 with (fail)
              have BW : Hid (Below w8.heap.size w8 _) := Below.drew (Below.refl _ _)
              refine wp_region_noPanic ?_
              refine wp_region_held_drew (S := fun w' => Cs w' b5 (opL q) ∧ Cs w' ph (spL H)) (by kernel_rfl) ?_ (fun hHeld => ?_)
              · exact ⟨Cs.later BW.out q8, Cs.later BW.out N8⟩
              generalize World.drew _ = wd0 at *
              refine wpAnyH_take (i := 0) (v := ?_) rfl (by kernel_rfl) (by kernel_rfl) (by kernel_rfl) (fun _ _ _ h => h) (Or.inl ⟨by rfl, ?_⟩) (by assumption) ?_
              rotate_left
              · (intro wS hSw; have d2 := hSw.1.1 2 _ rfl; have d3 := hSw.1.1 3 _ rfl; have d4 := hSw.1.1 4 _ rfl; have d5 := hSw.1.1 5 _ rfl; have d6 := hSw.1.1 6 _ rfl; have d7 := hSw.1.1 7 _ rfl; have d8 := hSw.1.1 8 _ rfl; have d9 := hSw.1.1 9 _ rfl; have d10 := hSw.1.1 10 _ rfl; have d11 := hSw.1.1 11 _ rfl; have d12 := hSw.1.1 12 _ rfl; have c0 := hSw.2.1 0 _ rfl; have c1 := hSw.2.1 1 _ rfl; have c2 := hSw.2.1 2 _ rfl; have c3 := hSw.2.1 3 _ rfl; have c4 := hSw.2.1 4 _ rfl; have c5 := hSw.2.1 5 _ rfl; have c6 := hSw.2.1 6 _ rfl; have c7 := hSw.2.1 7 _ rfl; have zz := EQ.out wS; go_simp; try with_reducible rfl)
              change wpAnyH _ _ _ _ _ _ _ (Act.put _ (some 71) _) _
              simp only [Act.put, List.setIfInBounds_toArray, List.set_cons_zero, List.set_cons_succ]
              refine wpAnyH_take (i := 1) (v := ?_) rfl (by kernel_rfl) (by kernel_rfl) (by kernel_rfl) (fun _ _ _ h => h) (Or.inl ⟨by rfl, ?_⟩) (by assumption) ?_
              rotate_left
              · (intro wS hSw; have d2 := hSw.1.1 2 _ rfl; have d3 := hSw.1.1 3 _ rfl; have d4 := hSw.1.1 4 _ rfl; have d5 := hSw.1.1 5 _ rfl; have d6 := hSw.1.1 6 _ rfl; have d7 := hSw.1.1 7 _ rfl; have d8 := hSw.1.1 8 _ rfl; have d9 := hSw.1.1 9 _ rfl; have d10 := hSw.1.1 10 _ rfl; have d11 := hSw.1.1 11 _ rfl; have d12 := hSw.1.1 12 _ rfl; have c0 := hSw.2.1 0 _ rfl; have c1 := hSw.2.1 1 _ rfl; have c2 := hSw.2.1 2 _ rfl; have c3 := hSw.2.1 3 _ rfl; have c4 := hSw.2.1 4 _ rfl; have c5 := hSw.2.1 5 _ rfl; have c6 := hSw.2.1 6 _ rfl; have c7 := hSw.2.1 7 _ rfl; have zz := EQ.out wS; go_simp; try with_reducible rfl)
              change wpAnyH _ _ _ _ _ _ _ (Act.put _ (some 72) _) _
              simp only [Act.put, List.setIfInBounds_toArray, List.set_cons_zero, List.set_cons_succ]
              refine wpAnyH_take (i := 2) (v := ?_) rfl (by kernel_rfl) (by kernel_rfl) (by kernel_rfl) (fun _ _ _ h => h) (Or.inl ⟨by rfl, ?_⟩) (by assumption) ?_
              rotate_left
              · (intro wS hSw; have d2 := hSw.1.1 2 _ rfl; have d3 := hSw.1.1 3 _ rfl; have d4 := hSw.1.1 4 _ rfl; have d5 := hSw.1.1 5 _ rfl; have d6 := hSw.1.1 6 _ rfl; have d7 := hSw.1.1 7 _ rfl; have d8 := hSw.1.1 8 _ rfl; have d9 := hSw.1.1 9 _ rfl; have d10 := hSw.1.1 10 _ rfl; have d11 := hSw.1.1 11 _ rfl; have d12 := hSw.1.1 12 _ rfl; have c0 := hSw.2.1 0 _ rfl; have c1 := hSw.2.1 1 _ rfl; have c2 := hSw.2.1 2 _ rfl; have c3 := hSw.2.1 3 _ rfl; have c4 := hSw.2.1 4 _ rfl; have c5 := hSw.2.1 5 _ rfl; have c6 := hSw.2.1 6 _ rfl; have c7 := hSw.2.1 7 _ rfl; have zz := EQ.out wS; go_simp; try with_reducible rfl)
              change wpAnyH _ _ _ _ _ _ _ (Act.put _ (some 73) _) _
              simp only [Act.put, List.setIfInBounds_toArray, List.set_cons_zero, List.set_cons_succ]
              refine wpAnyH_take (i := 4) (v := ?_) rfl (by kernel_rfl) (by kernel_rfl) (by kernel_rfl) (fun _ _ _ h => h) (Or.inl ⟨by rfl, ?_⟩) (by assumption) ?_
              rotate_left
              · (intro wS hSw; have d2 := hSw.1.1 2 _ rfl; have d3 := hSw.1.1 3 _ rfl; have d4 := hSw.1.1 4 _ rfl; have d5 := hSw.1.1 5 _ rfl; have d6 := hSw.1.1 6 _ rfl; have d7 := hSw.1.1 7 _ rfl; have d8 := hSw.1.1 8 _ rfl; have d9 := hSw.1.1 9 _ rfl; have d10 := hSw.1.1 10 _ rfl; have d11 := hSw.1.1 11 _ rfl; have d12 := hSw.1.1 12 _ rfl; have c0 := hSw.2.1 0 _ rfl; have c1 := hSw.2.1 1 _ rfl; have c2 := hSw.2.1 2 _ rfl; have c3 := hSw.2.1 3 _ rfl; have c4 := hSw.2.1 4 _ rfl; have c5 := hSw.2.1 5 _ rfl; have c6 := hSw.2.1 6 _ rfl; have c7 := hSw.2.1 7 _ rfl; have zz := EQ.out wS; go_simp; try with_reducible rfl)
              change wpAnyH _ _ _ _ _ _ _ (Act.put _ (some 75) _) _
              simp only [Act.put, List.setIfInBounds_toArray, List.set_cons_zero, List.set_cons_succ]
              refine wpAnyH_take (i := 5) (v := ?_) rfl (by kernel_rfl) (by kernel_rfl) (by kernel_rfl) (fun _ _ _ h => h) (Or.inl ⟨by rfl, ?_⟩) (by assumption) ?_
              rotate_left
              · (intro wS hSw; have d2 := hSw.1.1 2 _ rfl; have d3 := hSw.1.1 3 _ rfl; have d4 := hSw.1.1 4 _ rfl; have d5 := hSw.1.1 5 _ rfl; have d6 := hSw.1.1 6 _ rfl; have d7 := hSw.1.1 7 _ rfl; have d8 := hSw.1.1 8 _ rfl; have d9 := hSw.1.1 9 _ rfl; have d10 := hSw.1.1 10 _ rfl; have d11 := hSw.1.1 11 _ rfl; have d12 := hSw.1.1 12 _ rfl; have c0 := hSw.2.1 0 _ rfl; have c1 := hSw.2.1 1 _ rfl; have c2 := hSw.2.1 2 _ rfl; have c3 := hSw.2.1 3 _ rfl; have c4 := hSw.2.1 4 _ rfl; have c5 := hSw.2.1 5 _ rfl; have c6 := hSw.2.1 6 _ rfl; have c7 := hSw.2.1 7 _ rfl; have zz := EQ.out wS; go_simp; try with_reducible rfl)
              change wpAnyH _ _ _ _ _ _ _ (Act.put _ (some 76) _) _
              simp only [Act.put, List.setIfInBounds_toArray, List.set_cons_zero, List.set_cons_succ]
              refine wpAnyH_ready (rs := [3]) (by kernel_rfl) (by simp) ?_
              refine AllReadyH.cons rfl (fun K hK => ?_) AllReadyH.nil
              go_simp
              refine (HV.out _ (Tb.later BW.out T8)).mono ?_
              rintro e v1 ⟨rfl, hv1⟩
              have BW' : Hid (Below w8.heap.size w8 v1) := BW.out.trans (hv1.mono BW.out.size)
              clear hv1 BW
              have BW := BW'
              clear BW'
              (try go_wp2_with (fail))
              refine hK.out _ _ ?_ (fun hHeld => ?_)
              · exact ⟨Cs.later BW.out q8, Cs.later BW.out N8⟩
              clear hK K
              refine wpAnyH_take (i := 6) (v := ?_) rfl (by kernel_rfl) (by kernel_rfl) (by kernel_rfl) (fun _ _ _ h => h) (Or.inl ⟨by rfl, ?_⟩) (by assumption) ?_
              rotate_left
              · (intro wS hSw; have d2 := hSw.1.1 2 _ rfl; have d3 := hSw.1.1 3 _ rfl; have d4 := hSw.1.1 4 _ rfl; have d5 := hSw.1.1 5 _ rfl; have d6 := hSw.1.1 6 _ rfl; have d7 := hSw.1.1 7 _ rfl; have d8 := hSw.1.1 8 _ rfl; have d9 := hSw.1.1 9 _ rfl; have d10 := hSw.1.1 10 _ rfl; have d11 := hSw.1.1 11 _ rfl; have d12 := hSw.1.1 12 _ rfl; have c0 := hSw.2.1 0 _ rfl; have c1 := hSw.2.1 1 _ rfl; have c2 := hSw.2.1 2 _ rfl; have c3 := hSw.2.1 3 _ rfl; have c4 := hSw.2.1 4 _ rfl; have c5 := hSw.2.1 5 _ rfl; have c6 := hSw.2.1 6 _ rfl; have c7 := hSw.2.1 7 _ rfl; have zz := EQ.out wS; go_simp; try with_reducible rfl)
              change wpAnyH _ _ _ _ _ _ _ (Act.put _ (some 77) _) _
              simp only [Act.put, List.setIfInBounds_toArray, List.set_cons_zero, List.set_cons_succ]
              refine wpAnyH_take (i := 7) (v := ?_) rfl (by kernel_rfl) (by kernel_rfl) (by kernel_rfl) (fun _ _ _ h => h) (Or.inl ⟨by rfl, ?_⟩) (by assumption) ?_
              rotate_left
              · (intro wS hSw; have d2 := hSw.1.1 2 _ rfl; have d3 := hSw.1.1 3 _ rfl; have d4 := hSw.1.1 4 _ rfl; have d5 := hSw.1.1 5 _ rfl; have d6 := hSw.1.1 6 _ rfl; have d7 := hSw.1.1 7 _ rfl; have d8 := hSw.1.1 8 _ rfl; have d9 := hSw.1.1 9 _ rfl; have d10 := hSw.1.1 10 _ rfl; have d11 := hSw.1.1 11 _ rfl; have d12 := hSw.1.1 12 _ rfl; have c0 := hSw.2.1 0 _ rfl; have c1 := hSw.2.1 1 _ rfl; have c2 := hSw.2.1 2 _ rfl; have c3 := hSw.2.1 3 _ rfl; have c4 := hSw.2.1 4 _ rfl; have c5 := hSw.2.1 5 _ rfl; have c6 := hSw.2.1 6 _ rfl; have c7 := hSw.2.1 7 _ rfl; have zz := EQ.out wS; go_simp; try with_reducible rfl)
              change wpAnyH _ _ _ _ _ _ _ (Act.put _ (some 78) _) _
              simp only [Act.put, List.setIfInBounds_toArray, List.set_cons_zero, List.set_cons_succ]
              refine wpAnyH_take (i := 8) (v := ?_) rfl (by kernel_rfl) (by kernel_rfl) (by kernel_rfl) (fun _ _ _ h => h) (Or.inl ⟨by rfl, ?_⟩) (by assumption) ?_
              rotate_left
              · (intro wS hSw; have d2 := hSw.1.1 2 _ rfl; have d3 := hSw.1.1 3 _ rfl; have d4 := hSw.1.1 4 _ rfl; have d5 := hSw.1.1 5 _ rfl; have d6 := hSw.1.1 6 _ rfl; have d7 := hSw.1.1 7 _ rfl; have d8 := hSw.1.1 8 _ rfl; have d9 := hSw.1.1 9 _ rfl; have d10 := hSw.1.1 10 _ rfl; have d11 := hSw.1.1 11 _ rfl; have d12 := hSw.1.1 12 _ rfl; have c0 := hSw.2.1 0 _ rfl; have c1 := hSw.2.1 1 _ rfl; have c2 := hSw.2.1 2 _ rfl; have c3 := hSw.2.1 3 _ rfl; have c4 := hSw.2.1 4 _ rfl; have c5 := hSw.2.1 5 _ rfl; have c6 := hSw.2.1 6 _ rfl; have c7 := hSw.2.1 7 _ rfl; have zz := EQ.out wS; go_simp; try with_reducible rfl)
              change wpAnyH _ _ _ _ _ _ _ (Act.put _ (some 79) _) _
              simp only [Act.put, List.setIfInBounds_toArray, List.set_cons_zero, List.set_cons_succ]
              refine wpAnyH_take (i := 9) (v := ?_) rfl (by kernel_rfl) (by kernel_rfl) (by kernel_rfl) (fun _ _ _ h => h) (Or.inl ⟨by rfl, ?_⟩) (by assumption) ?_
              rotate_left
              · (intro wS hSw; have d2 := hSw.1.1 2 _ rfl; have d3 := hSw.1.1 3 _ rfl; have d4 := hSw.1.1 4 _ rfl; have d5 := hSw.1.1 5 _ rfl; have d6 := hSw.1.1 6 _ rfl; have d7 := hSw.1.1 7 _ rfl; have d8 := hSw.1.1 8 _ rfl; have d9 := hSw.1.1 9 _ rfl; have d10 := hSw.1.1 10 _ rfl; have d11 := hSw.1.1 11 _ rfl; have d12 := hSw.1.1 12 _ rfl; have c0 := hSw.2.1 0 _ rfl; have c1 := hSw.2.1 1 _ rfl; have c2 := hSw.2.1 2 _ rfl; have c3 := hSw.2.1 3 _ rfl; have c4 := hSw.2.1 4 _ rfl; have c5 := hSw.2.1 5 _ rfl; have c6 := hSw.2.1 6 _ rfl; have c7 := hSw.2.1 7 _ rfl; have zz := EQ.out wS; go_simp; try with_reducible rfl)
              change wpAnyH _ _ _ _ _ _ _ (Act.put _ (some 80) _) _
              simp only [Act.put, List.setIfInBounds_toArray, List.set_cons_zero, List.set_cons_succ]
              refine wpAnyH_take (i := 10) (v := ?_) rfl (by kernel_rfl) (by kernel_rfl) (by kernel_rfl) (fun _ _ _ h => h) (Or.inl ⟨by rfl, ?_⟩) (by assumption) ?_
              rotate_left
              · (intro wS hSw; have d2 := hSw.1.1 2 _ rfl; have d3 := hSw.1.1 3 _ rfl; have d4 := hSw.1.1 4 _ rfl; have d5 := hSw.1.1 5 _ rfl; have d6 := hSw.1.1 6 _ rfl; have d7 := hSw.1.1 7 _ rfl; have d8 := hSw.1.1 8 _ rfl; have d9 := hSw.1.1 9 _ rfl; have d10 := hSw.1.1 10 _ rfl; have d11 := hSw.1.1 11 _ rfl; have d12 := hSw.1.1 12 _ rfl; have c0 := hSw.2.1 0 _ rfl; have c1 := hSw.2.1 1 _ rfl; have c2 := hSw.2.1 2 _ rfl; have c3 := hSw.2.1 3 _ rfl; have c4 := hSw.2.1 4 _ rfl; have c5 := hSw.2.1 5 _ rfl; have c6 := hSw.2.1 6 _ rfl; have c7 := hSw.2.1 7 _ rfl; have zz := EQ.out wS; go_simp; try with_reducible rfl)
              change wpAnyH _ _ _ _ _ _ _ (Act.put _ (some 81) _) _
              simp only [Act.put, List.setIfInBounds_toArray, List.set_cons_zero, List.set_cons_succ]
              refine wpAnyH_take (i := 11) (v := ?_) rfl (by kernel_rfl) (by kernel_rfl) (by kernel_rfl) (fun _ _ _ h => h) (Or.inl ⟨by rfl, ?_⟩) (by assumption) ?_
              rotate_left
              · (intro wS hSw; have d2 := hSw.1.1 2 _ rfl; have d3 := hSw.1.1 3 _ rfl; have d4 := hSw.1.1 4 _ rfl; have d5 := hSw.1.1 5 _ rfl; have d6 := hSw.1.1 6 _ rfl; have d7 := hSw.1.1 7 _ rfl; have d8 := hSw.1.1 8 _ rfl; have d9 := hSw.1.1 9 _ rfl; have d10 := hSw.1.1 10 _ rfl; have d11 := hSw.1.1 11 _ rfl; have d12 := hSw.1.1 12 _ rfl; have c0 := hSw.2.1 0 _ rfl; have c1 := hSw.2.1 1 _ rfl; have c2 := hSw.2.1 2 _ rfl; have c3 := hSw.2.1 3 _ rfl; have c4 := hSw.2.1 4 _ rfl; have c5 := hSw.2.1 5 _ rfl; have c6 := hSw.2.1 6 _ rfl; have c7 := hSw.2.1 7 _ rfl; have zz := EQ.out wS; go_simp; try with_reducible rfl)
              change wpAnyH _ _ _ _ _ _ _ (Act.put _ (some 82) _) _
              simp only [Act.put, List.setIfInBounds_toArray, List.set_cons_zero, List.set_cons_succ]
              refine wpAnyH_ready (rs := [12]) (by kernel_rfl) (by simp) ?_
              refine AllReadyH.cons rfl (fun K hK => ?_) AllReadyH.nil
              have x1 := Tb.later BW.out T8
              have x2 := Cs.later BW.out q8
              have x3 := Cs.later BW.out N8
              have x4 := Tb.later BW.out TC8
              have x5 := HB8.trans (BW.out.mono HB8.size)
              go_simp
              refine (PV.out _ x1).mono ?_
              rintro e v9 ⟨rfl, T9, hg⟩
              have n2 := x1.map.ne (x2.1 0 _ rfl)
              have n3 := x1.map.ne (x3.1 0 _ rfl)
              have q9 := x2.grown hg (fun e => n2 (by cases e; rfl))
              have N9 := x3.grown hg (fun e => n3 (by cases e; rfl))
              have TC9 := x4.other x1.map MN.out hg
              have HB9 := x5.grown hg x5.size (fun k e => by cases e; exact LM.out)
              clear x1 x2 x3 x4 x5 n2 n3 hg BW T8 q8 N8 TC8 HB8
              (try go_wp2_with (fail))
              refine hK.out _ _ ?_ (fun hHeld => ?_)
              · exact ⟨q9, N9⟩
              clear hK K
              refine wpAnyH_take (i := 13) (v := ?_) rfl (by kernel_rfl) (by kernel_rfl) (by kernel_rfl) (fun _ _ _ h => h) (Or.inl ⟨by rfl, ?_⟩) (by assumption) ?_
              rotate_left
              · (intro wS hSw; have d2 := hSw.1.1 2 _ rfl; have d3 := hSw.1.1 3 _ rfl; have d4 := hSw.1.1 4 _ rfl; have d5 := hSw.1.1 5 _ rfl; have d6 := hSw.1.1 6 _ rfl; have d7 := hSw.1.1 7 _ rfl; have d8 := hSw.1.1 8 _ rfl; have d9 := hSw.1.1 9 _ rfl; have d10 := hSw.1.1 10 _ rfl; have d11 := hSw.1.1 11 _ rfl; have d12 := hSw.1.1 12 _ rfl; have c0 := hSw.2.1 0 _ rfl; have c1 := hSw.2.1 1 _ rfl; have c2 := hSw.2.1 2 _ rfl; have c3 := hSw.2.1 3 _ rfl; have c4 := hSw.2.1 4 _ rfl; have c5 := hSw.2.1 5 _ rfl; have c6 := hSw.2.1 6 _ rfl; have c7 := hSw.2.1 7 _ rfl; have zz := EQ.out wS; go_simp; try with_reducible rfl)
              change wpAnyH _ _ _ _ _ _ _ (Act.put _ (some 84) _) _
              simp only [Act.put, List.setIfInBounds_toArray, List.set_cons_zero, List.set_cons_succ]
              refine wpAnyH_take (i := 14) (v := ?_) rfl (by kernel_rfl) (by kernel_rfl) (by kernel_rfl) (fun _ _ _ h => h) (Or.inl ⟨by rfl, ?_⟩) (by assumption) ?_
              rotate_left
              · (intro wS hSw; have d2 := hSw.1.1 2 _ rfl; have d3 := hSw.1.1 3 _ rfl; have d4 := hSw.1.1 4 _ rfl; have d5 := hSw.1.1 5 _ rfl; have d6 := hSw.1.1 6 _ rfl; have d7 := hSw.1.1 7 _ rfl; have d8 := hSw.1.1 8 _ rfl; have d9 := hSw.1.1 9 _ rfl; have d10 := hSw.1.1 10 _ rfl; have d11 := hSw.1.1 11 _ rfl; have d12 := hSw.1.1 12 _ rfl; have c0 := hSw.2.1 0 _ rfl; have c1 := hSw.2.1 1 _ rfl; have c2 := hSw.2.1 2 _ rfl; have c3 := hSw.2.1 3 _ rfl; have c4 := hSw.2.1 4 _ rfl; have c5 := hSw.2.1 5 _ rfl; have c6 := hSw.2.1 6 _ rfl; have c7 := hSw.2.1 7 _ rfl; have zz := EQ.out wS; go_simp; try with_reducible rfl)
              change wpAnyH _ _ _ _ _ _ _ (Act.put _ (some 85) _) _
              simp only [Act.put, List.setIfInBounds_toArray, List.set_cons_zero, List.set_cons_succ]
              refine wpAnyH_done (by kernel_rfl) ?_ _
              refine NoPanic.normal ?_
              go_wp2_with (fail)
              refine (SM.out v9 b' m' T9 TC9).mono ?_
              rintro e v10 ⟨rfl, hb⟩
              go_wp2
              go_ret
              exact ⟨rfl, HB9.trans (hb.mono HB9.size)⟩
            · obtain rfl : ms = ls := NO.out e0
              clear OKC NO PU
              go_wp2_with (fail)
              refine (SM.out w8 b' m' T8 TC8).mono ?_
              rintro e v10 ⟨rfl, hb⟩
              go_wp2
              go_ret
              exact ⟨rfl, HB8.trans (hb.mono HB8.size)⟩


end Go.Proofs.Ytpefjcgccbfgbaa.Bk
