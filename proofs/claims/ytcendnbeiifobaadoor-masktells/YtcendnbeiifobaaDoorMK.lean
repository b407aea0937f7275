/-
  The text of a mask at this program: the document's own. Conditions: none.
-/
import Derived.Test.YtcendnbeiifobaaDoorMG
import Derived.Test.YtcendnbeiifobaaDoorMJ
import Derived.Laws.BytesString
namespace Go.Proofs.YtcendnbeiifobaaDoor.Mk
open Go.RowKit

/-- What stands there behind so many nodes. -/
def tT (b j : Nat) : List UInt8 := ((nd b).take j).flatMap fun x => [44, UInt8.ofNat (48 + x.1)]
theorem tT_succ {b j : Nat} {x : Fin 8} (h : (nd b)[j]? = some x) : tT b (j + 1) = tT b j ++ [44, UInt8.ofNat (48 + x.1)] := by
  unfold tT
  rw [List.take_add_one, h]
  simp
theorem tT_len (b : Nat) : ∀ j, (tT b j).length ≤ 2 * j
  | 0 => by simp [tT]
  | j + 1 => by
    cases h : (nd b)[j]? with
    | none =>
      unfold tT
      rw [List.take_add_one, h]
      have := tT_len b j
      unfold tT at this
      simp at this ⊢
      omega
    | some x =>
      rw [tT_succ h, List.length_append]
      have := tT_len b j
      simp
      omega
theorem conv_one (wx : World) (B : Nat) (x : Int) (hc : wx.cell? ⟨B, 0, none⟩ = some (.int .u8 x)) :
    (convert 49 9 (.slice (some ⟨B, 0, none⟩) 1 1)).run Tryd.prog wx = .ok (.string ⟨#[UInt8.ofNat x.toNat]⟩) wx := by
  rw [run_convert_bytes_string wx _ _ _ _ _ _ Tryd.underlying49 Tryd.underlying5 Tryd.underlying9]
  refine run_bytesToString wx _ _ _ [x] ?_
  rw [run_loadCells (w := wx) (P := Tryd.prog) ⟨B, 0, none⟩ 1 (fun _ => .int .u8 x) (fun t ht => by
    obtain rfl : t = 0 := by omega
    simpa [Addr.add] using hc)]
  rfl
theorem conv_word (wx : World) (x : Fin 8) :
    (convert 49 9 (.slice (some ⟨wx.heap.size, 0, none⟩) 1 1)).run Tryd.prog (wx.alloc (.cells #[.int .u8 (48 + (x.1 : Int))] 5)) = .ok (.string (word x)) (wx.alloc (.cells #[.int .u8 (48 + (x.1 : Int))] 5)) := by
  rw [conv_one _ _ (48 + (x.1 : Int)) (by simp [go_sem])]
  rw [show (48 + (x.1 : Int)).toNat = 48 + x.1 by omega]
  rfl
theorem text_same : ∀ b : Fin 256, textL b.1 = if tT b.1 (cnt b.1) = [] then [45] else (tT b.1 (cnt b.1)).drop 1 := by decide +kernel
abbrev ndI (b : Nat) : List Int := (nd b).map fun x => (x.1 : Int)
theorem rnodes_read (b : Nat) (w : World) :
    Calls Tryd.prog 9 #[setV b] w fun e w' => ∃ v, e = .returned v ∧ RdI w' v (ndI b) ∧ Below w.heap.size w w' :=
  (rnodes_is b w).mono fun e w' ⟨v, he, own, hb⟩ => ⟨v, he, own_read (by rw [List.map_map]; exact own), hb⟩

set_option maxHeartbeats 2000000 in
set_option maxRecDepth 100000 in
theorem rtext_is (m : Int) (w : World) :
    Calls Tryd.prog 22 #[.int .i64 m] w fun e w' => e = .returned (.string ⟨(textL (low m)).toArray⟩) ∧ Below w.heap.size w w' := by
  obtain ⟨b, hb⟩ : ∃ b, b = low m := ⟨_, rfl⟩
  have b8 : b < 256 := by rw [hb]; exact low_lt m
  have A1 : Hid (∀ w, Calls Tryd.prog 8 #[.int .i64 m] w fun e w' => e = .returned (setV b) ∧ Below w.heap.size w w') := fun w => by rw [hb]; exact rof_v m w
  have A2 : Hid (∀ w, Calls Tryd.prog 9 #[setV b] w fun e w' => ∃ v, e = .returned v ∧ RdI w' v (ndI b) ∧ Below w.heap.size w w') := rnodes_read b
  obtain ⟨R, hR⟩ : ∃ R, R = (⟨(textL b).toArray⟩ : ByteArray) := ⟨_, rfl⟩
  rw [← hb, ← hR]
  have HR : Hid (R = ⟨(if tT b (cnt b) = [] then [45] else (tT b (cnt b)).drop 1).toArray⟩) := by
    show R = _
    rw [hR, text_same ⟨b, b8⟩]
  have NL : (ndI b).length = cnt b := List.length_map _
  have C8 := cnt_le b
  have NX : Hid (∀ j d, (ndI b)[j]? = some d → ∃ x : Fin 8, d = (x.1 : Int) ∧ tT b (j + 1) = tT b j ++ [44, UInt8.ofNat (48 + x.1)]) := fun j d h => by
    rw [List.getElem?_map] at h
    cases hx : (nd b)[j]? with
    | none => rw [hx] at h; cases h
    | some x =>
      rw [hx] at h
      injection h with h
      exact ⟨x, h.symm, tT_succ hx⟩
  clear hb hR b8
  generalize ndI b = zs at *
  go_enter Tryd.func22, Tryd.ntmps22
  go_wp2_with (fail)
  refine (A1.out _).mono ?_
  rintro e w1 ⟨rfl, hw1⟩
  go_wp2_with (fail)
  refine (A2.out _).mono ?_
  rintro e w2 ⟨v, rfl, ⟨a, cap, rfl, a1, a2, a3⟩, hw2⟩
  have HB2 : Below w.heap.size w w2 := hw1.trans (hw2.mono hw1.size)
  have A3 : Hid (∀ (j : Nat) (d : Int), zs[j]? = some d → ∃ b off : Nat, a = some ⟨b, off, none⟩ ∧ w2.cell? ⟨b, off + j, none⟩ = some (.int .i64 d)) := a3
  have zl : zs.length ≤ maxLen := by omega
  unfold maxLen at zl
  have NL' : zs.length ≤ 8 := by omega
  clear A1 A2 hw1 hw2 a3
  go_wp2
  go_loopw [3, 10] (fun s f wr => ∃ (j : Nat) (S : ByteArray), j ≤ zs.length ∧ f = .int .i64 j ∧ s = .string S ∧ Hid (S = ⟨(tT b j).toArray⟩) ∧ Below w.heap.size w wr ∧ Below w2.heap.size w2 wr) (fun _ f _ => zs.length - (intOf f).toNat)
  case atStart => exact ⟨0, ⟨#[]⟩, by omega, rfl, rfl, rfl, HB2, Below.refl _ _⟩
  case round =>
    clear HB2
    obtain ⟨j, S, jl, rfl, rfl, HS, HB, HW⟩ := hrel
    have hs := HB.size
    by_cases cj : j < zs.length
    · obtain ⟨d, hdj⟩ : ∃ d, zs[j]? = some d := ⟨zs[j], List.getElem?_eq_getElem cj⟩
      obtain ⟨g, off, rfl, cell⟩ := A3.out j d hdj
      have cw := cell_later HW cell
      obtain ⟨x, rfl, hx⟩ := NX.out j d hdj
      have HX : Hid (tT b (j + 1) = tT b j ++ [44, UInt8.ofNat (48 + x.1)]) := hx
      have j0 : (0 : Int) ≤ (j : Int) := by omega
      have j1 : (j : Int) < (zs.length : Int) := by omega
      have x1 : (x.1 : Int) < 8 := by omega
      have x0 : (0 : Int) ≤ (x.1 : Int) := by omega
      have SZ : S.size ≤ 16 := by
        have := tT_len b j
        rw [HS.out]
        show (tT b j).toArray.size ≤ 16
        simp
        omega
      have cv := conv_word wr x
      have T1 : (word x).size = 1 := rfl
      have HT : Hid ((word x).data.toList = [UInt8.ofNat (48 + x.1)]) := rfl
      generalize word x = T at *
      have s1 : ¬ 9223372036854775807 < (⟨#[44]⟩ : ByteArray).size + T.size := by rw [show (⟨#[44]⟩ : ByteArray).size = 1 from rfl]; omega
      have s3 : ((⟨#[44]⟩ : ByteArray) ++ T).size = 2 := by rw [ByteArray.size_append, show (⟨#[44]⟩ : ByteArray).size = 1 from rfl, T1]
      have s2 : ¬ 9223372036854775807 < S.size + ((⟨#[44]⟩ : ByteArray) ++ T).size := by rw [s3]; omega
      have NS : Hid (S ++ ((⟨#[44]⟩ : ByteArray) ++ T) = ⟨(tT b (j + 1)).toArray⟩) := by
        show S ++ ((⟨#[44]⟩ : ByteArray) ++ T) = _
        refine ByteArray.ext ?_
        rw [HS.out, HX.out, ByteArray.data_append, ByteArray.data_append, show T.data = [UInt8.ofNat (48 + x.1)].toArray by rw [← HT.out]]
        simp
      have HB' : Below w.heap.size w (wr.alloc (.cells #[.int .u8 (48 + (x.1 : Int))] 5)) := HB.alloc HB.size _
      have HW' : Below w2.heap.size w2 (wr.alloc (.cells #[.int .u8 (48 + (x.1 : Int))] 5)) := HW.alloc HW.size _
      clear hx hdj cell HX HS s3 T1 HT SZ HB HW
      go_wp2
      go_roundw
      case rel => exact ⟨j + 1, _, by omega, by go_num, rfl, NS, HB', HW'⟩
      case measure => simp [intOf]; omega
    · have jn : j = cnt b := by omega
      subst jn
      have j1 : ¬ (cnt b : Int) < (cnt b : Int) := by omega
      generalize tT b (cnt b) = L at *
      cases L with
      | nil =>
        have X : Hid (R = ⟨#[45]⟩) := HR.out
        obtain rfl : S = ⟨#[]⟩ := HS.out
        clear HR HS
        go_wp2
        go_ret
        exact ⟨by rw [X.out]; rfl, HB⟩
      | cons c r =>
        have X : Hid (R = ⟨r.toArray⟩) := HR.out
        have SZ : S.size = r.length + 1 := by rw [HS.out]; simp [ByteArray.size]
        have se : S.toList.isEmpty = false := by
          rw [ByteArray.toList_eq, HS.out]
          rfl
        have sl : ∀ w : World, (Instr.slice 9 (.string S) (some (.int .i64 1)) none none).run Tryd.prog w = .ok (.string R) w := fun w => by
          have s1 : (1 : Int) ≤ (S.size : Int) := by omega
          have ex : S.extract 1 S.size = ⟨r.toArray⟩ := by
            refine ByteArray.ext ?_
            rw [ByteArray.data_extract, SZ, HS.out]
            apply Array.ext'
            simp
          rw [X.out, ← ex]
          simp [go_sem, s1]
        clear HR HS
        go_wp2
        go_ret
        exact ⟨rfl, HB⟩

end Go.Proofs.YtcendnbeiifobaaDoor.Mk
