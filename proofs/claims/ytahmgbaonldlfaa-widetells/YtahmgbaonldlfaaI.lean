/-
  The contract of package wide's Parse at this program, over any text: which number its digits make. Conditions: none beyond the text's length fitting the machine.
-/
import Derived.Test.YtahmgbaonldlfaaH
import Derived.Deep.CutRange
import Derived.Deep.DeepCutAuto
namespace Go.Proofs.Ytahmgbaonldlfaa
open Go.RowKit

/-- The number that digits make, the greatest first. -/
def dval (l : List UInt8) : Int := l.foldl (fun v c => v * 10 + ((c.toNat : Int) - 48)) 0
def digs (l : List UInt8) : Prop := ∀ c ∈ l, 48 ≤ c.toNat ∧ c.toNat ≤ 57

theorem dval_snoc (l : List UInt8) (c : UInt8) : dval (l ++ [c]) = dval l * 10 + ((c.toNat : Int) - 48) := by
  simp [dval]
theorem dval_append (l m : List UInt8) : dval (l ++ m) = m.foldl (fun v c => v * 10 + ((c.toNat : Int) - 48)) (dval l) := by
  simp [dval]
theorem fold_mono (m : List UInt8) : ∀ v : Int, 0 ≤ v → digs m → v ≤ m.foldl (fun v c => v * 10 + ((c.toNat : Int) - 48)) v := by
  induction m with
  | nil => intro v _ _; simp
  | cons c t ih =>
    intro v hv hd
    have hc := hd c (by simp)
    have := ih (v * 10 + ((c.toNat : Int) - 48)) (by omega) (fun x hx => hd x (by simp [hx]))
    simp only [List.foldl_cons]
    omega
theorem digs_snoc {l : List UInt8} {c : UInt8} (h : digs l) (h0 : 48 ≤ c.toNat) (h1 : c.toNat ≤ 57) : digs (l ++ [c]) := by
  intro x hx
  rcases List.mem_append.1 hx with hx | hx
  · exact h x hx
  · simp at hx; subst hx; exact ⟨h0, h1⟩
theorem take_snoc (s : ByteArray) (k : Nat) (h : k < s.size) : s.data.toList.take (k + 1) = s.data.toList.take k ++ [s[k]] := by
  rw [List.take_succ_eq_append_getElem (by simpa using h)]; rfl

/-- Is a text a number's own? -/
def good (s : ByteArray) : Prop := digs s.data.toList ∧ 0 < s.size ∧ (1 < s.size → ¬ (s.data.toList.head?.map UInt8.toNat = some 48))

set_option maxHeartbeats 1000000 in
theorem parse_empty (s : ByteArray) (w : World) (hz : s.size = 0) :
    Calls Try.prog 13 #[.string s] w fun e w' =>
      e = .returned (.tuple #[.agg #[.int .u64 0, .int .u64 0], .bool false]) ∧ Below w.heap.size w w' := by
  obtain rfl : s = ⟨#[]⟩ := by
    cases s with | mk d => simp [ByteArray.size] at hz; subst hz; rfl
  go_enter Try.func13, Try.ntmps13
  go_wp2
  go_returns
  exact ⟨rfl, by go_grown⟩

set_option maxHeartbeats 1000000 in
theorem parse_zero (s : ByteArray) (w : World) (hm : s.size ≤ maxLen) (hz : 1 < s.size) (h0 : s[0].toNat = 48) :
    Calls Try.prog 13 #[.string s] w fun e w' =>
      e = .returned (.tuple #[.agg #[.int .u64 0, .int .u64 0], .bool false]) ∧ Below w.heap.size w w' := by
  unfold maxLen at hm
  go_enter Try.func13, Try.ntmps13
  go_wp2
  all_goals
    go_returns
    exact ⟨rfl, by go_grown⟩

/-- One digit more: what withDigit answers. -/
def Step (h l : Int) (c : UInt8) (h3 l3 : Int) (b3 : Bool) : Prop :=
  (48 ≤ c.toNat ∧ c.toNat ≤ 57 ∧ Fits h3 l3 b3 ((h * 18446744073709551616 + l) * 10 + ((c.toNat : Int) - 48))) ∨ (¬ (48 ≤ c.toNat ∧ c.toNat ≤ 57) ∧ b3 = false ∧ h3 = 0 ∧ l3 = 0)

theorem digit_step (h l : Int) (c : UInt8) (w : World) (k2 : 0 ≤ l) (k3 : l < 18446744073709551616) (k0 : 0 ≤ h) (k1 : h < 18446744073709551616) :
    Calls Try.prog 31 #[.agg #[.int .u64 h, .int .u64 l], .int .u8 (c.toNat : Int)] w fun e w' =>
      ∃ (h3 l3 : Int) (b3 : Bool), e = .returned (.tuple #[.agg #[.int .u64 h3, .int .u64 l3], .bool b3]) ∧ Wok h3 l3 ∧ Step h l c h3 l3 b3 ∧ Below w.heap.size w w' := by
  have b8 : c.toNat < 256 := c.toNat_lt
  by_cases hd : 48 ≤ c.toNat ∧ c.toNat ≤ 57
  · refine (digit_yes h l c.toNat w k2 k3 k0 k1 (by omega) (by omega)).mono ?_
    rintro e w' ⟨h3, l3, b3, rfl, m, f, hb⟩
    exact ⟨_, _, _, rfl, m, Or.inl ⟨hd.1, hd.2, f⟩, hb⟩
  · refine (digit_no h l c.toNat w (by omega) (by omega) (by omega)).mono ?_
    rintro e w' ⟨rfl, hb⟩
    exact ⟨_, _, _, rfl, ⟨by omega, by omega, by omega, by omega⟩, Or.inr ⟨hd, rfl, rfl, rfl⟩, hb⟩

theorem not_long (s : ByteArray) (k : Nat) (hlt : k < s.size) (h l : Int) (fv : 340282366920938463463374607431768211456 ≤ (h * 18446744073709551616 + l) * 10 + ((s[k].toNat : Int) - 48))
    (hv : h * 18446744073709551616 + l = dval (s.data.toList.take k)) (ts : s.data.toList.take (k + 1) = s.data.toList.take k ++ [s[k]]) :
    ¬ (digs s.data.toList ∧ dval s.data.toList < 340282366920938463463374607431768211456) := by
  rintro ⟨hd, hv2⟩
  have e : dval (s.data.toList.take (k + 1)) = (h * 18446744073709551616 + l) * 10 + ((s[k].toNat : Int) - 48) := by rw [ts, dval_snoc, hv]
  have m := fold_mono (s.data.toList.drop (k + 1)) (dval (s.data.toList.take (k + 1))) (by omega) (fun c hc => hd c (List.mem_of_mem_drop hc))
  rw [← dval_append, List.take_append_drop] at m
  omega

set_option maxHeartbeats 2000000 in
theorem parse_loop (s : ByteArray) (w : World) (hm : s.size ≤ maxLen) (hz : 0 < s.size) (h0 : 1 < s.size → ¬ s[0].toNat = 48) :
    Calls Try.prog 13 #[.string s] w fun e w' =>
      ∃ (h l : Int) (b : Bool), e = .returned (.tuple #[.agg #[.int .u64 h, .int .u64 l], .bool b]) ∧ Wok h l ∧
        ((b = true ∧ digs s.data.toList ∧ h * 18446744073709551616 + l = dval s.data.toList) ∨ (b = false ∧ h = 0 ∧ l = 0 ∧ ¬ (digs s.data.toList ∧ dval s.data.toList < 340282366920938463463374607431768211456))) ∧ Below w.heap.size w w' := by
  unfold maxLen at hm
  have he1 : ¬ s.toList = [] := by
    rw [ByteArray.toList_eq]; intro h; have : s.data.toList.length = 0 := by rw [h]; rfl
    simp at this; simp [ByteArray.size, this] at hz
  have he2 : s.toList.isEmpty = false := by simpa [List.isEmpty_iff] using he1
  have hb0 : 1 < s.size → (((s[0].toNat : Nat) : Int) == 48) = false := by
    intro h; have := h0 h; simp only [beq_eq_false_iff_ne, ne_eq]; omega
  clear h0
  by_cases h2 : 1 < s.size
  all_goals
    try have h3 := hb0 h2
    clear hb0
    go_enter Try.func13, Try.ntmps13
    go_wp2
    go_loopw [23] (fun i wr => ∃ (k : Nat) (h l : Int), k ≤ s.size ∧ i = .int .i64 k ∧ 0 ≤ h ∧ h < 18446744073709551616 ∧ 0 ≤ l ∧ l < 18446744073709551616 ∧ digs (s.data.toList.take k) ∧ Hid (h * 18446744073709551616 + l = dval (s.data.toList.take k)) ∧
        wr.cell? ⟨w.heap.size + 1, 0, none⟩ = some (.int .u64 h) ∧ wr.cell? ⟨w.heap.size + 1, 1, none⟩ = some (.int .u64 l) ∧ wr.cell? ⟨w.heap.size, 0, none⟩ = some (.int .u64 0) ∧ wr.cell? ⟨w.heap.size, 1, none⟩ = some (.int .u64 0) ∧
        wr.frozen? ⟨w.heap.size + 1, 0, none⟩ = false ∧ wr.frozen? ⟨w.heap.size + 1, 1, none⟩ = false ∧ wr.frozen? ⟨w.heap.size, 0, none⟩ = false ∧ wr.frozen? ⟨w.heap.size, 1, none⟩ = false ∧
        w.heap.size + 2 ≤ wr.heap.size ∧ Below w.heap.size w wr) (fun i _ => s.size - (intOf i).toNat)
    case atStart =>
      refine ⟨0, 0, 0, Nat.zero_le _, rfl, by omega, by omega, by omega, by omega, ?_, ?_, ?_⟩
      · intro c hc; simp at hc
      · unfold Hid; simp [dval]
      · exact ⟨by simp, by simp, by simp, by simp, by simp [go_sem], by simp [go_sem], by simp [go_sem], by simp [go_sem], by simp, by go_grown⟩
    case round =>
      obtain ⟨k, h, l, hk, rfl, k0, k1, k2, k3, hdg, HV, c1, c2, c3, c4, f1, f2, f3, f4, hsz, HB⟩ := hrel
      have z1 : w.heap.size < wr.heap.size := by omega
      have z2 : w.heap.size + 1 < wr.heap.size := by omega
      by_cases hlt : k < s.size
      · have TS : Hid _ := take_snoc s k hlt
        have hmem : Hid (s[k] ∈ s.data.toList) := by unfold Hid; exact List.getElem_mem (l := s.data.toList) (n := k) (by simpa using hlt)
        have b8 : s[k].toNat < 256 := s[k].toNat_lt
        have CD : Hid (∀ wx, Calls Try.prog 31 #[.agg #[.int .u64 h, .int .u64 l], .int .u8 (s[k].toNat : Int)] wx fun e w' =>
            ∃ (h3 l3 : Int) (b3 : Bool), e = .returned (.tuple #[.agg #[.int .u64 h3, .int .u64 l3], .bool b3]) ∧ Wok h3 l3 ∧ Step h l s[k] h3 l3 b3 ∧ Below wx.heap.size wx w') := fun wx => digit_step h l s[k] wx k2 k3 k0 k1
        go_wp2_with (fail)
        go_cut [6, 7, 23] (fun p b i wc => ∃ (nb : Nat) (h3 l3 : Int) (b3 : Bool), p = .pointer (some ⟨nb, 0, none⟩) ∧ b = .bool b3 ∧ i = .int .i64 k ∧ Wok h3 l3 ∧ Step h l s[k] h3 l3 b3 ∧
          w.heap.size + 2 ≤ nb ∧ nb < wc.heap.size ∧ wc.cell? ⟨nb, 0, none⟩ = some (.int .u64 h3) ∧ wc.cell? ⟨nb, 1, none⟩ = some (.int .u64 l3) ∧
          wc.cell? ⟨w.heap.size + 1, 0, none⟩ = some (.int .u64 h) ∧ wc.cell? ⟨w.heap.size + 1, 1, none⟩ = some (.int .u64 l) ∧ wc.cell? ⟨w.heap.size, 0, none⟩ = some (.int .u64 0) ∧ wc.cell? ⟨w.heap.size, 1, none⟩ = some (.int .u64 0) ∧
          wc.frozen? ⟨w.heap.size + 1, 0, none⟩ = false ∧ wc.frozen? ⟨w.heap.size + 1, 1, none⟩ = false ∧ wc.frozen? ⟨w.heap.size, 0, none⟩ = false ∧ wc.frozen? ⟨w.heap.size, 1, none⟩ = false ∧
          w.heap.size + 2 ≤ wc.heap.size ∧ Below w.heap.size w wc)
        case first =>
          go_region_with (go_at_call 31; refine (CD.out _).mono ?_; rintro e w3 ⟨h3, l3, b3, rfl, mm, ff, hw3⟩; have g1 := cell_later hw3 (a := ⟨w.heap.size + 1, 0, none⟩) (v := .int .u64 h) (by first | exact c1 | (simp [go_sem, z2, c1]; done)); have g2 := cell_later hw3 (a := ⟨w.heap.size + 1, 1, none⟩) (v := .int .u64 l) (by first | exact c2 | (simp [go_sem, z2, c2]; done)); have g3 := cell_later hw3 (a := ⟨w.heap.size, 0, none⟩) (v := .int .u64 0) (by first | exact c3 | (simp [go_sem, z1, c3]; done)); have g4 := cell_later hw3 (a := ⟨w.heap.size, 1, none⟩) (v := .int .u64 0) (by first | exact c4 | (simp [go_sem, z1, c4]; done)); obtain ⟨HBw3, hcw3, hfw3, hsw3⟩ := aft hw3 (B := w.heap.size) (W0 := w) (by go_grown) (by go_size); clear hw3; have y1 : w.heap.size < w3.heap.size := Nat.lt_of_lt_of_le (by first | exact z1 | exact Nat.lt_succ_of_lt z1 | (simp; omega)) hsw3; have y2 : w.heap.size + 1 < w3.heap.size := Nat.lt_of_lt_of_le (by first | exact z2 | (simp; omega)) hsw3; have y3 : wr.heap.size ≤ w3.heap.size := Nat.le_trans (by first | exact Nat.le_refl _ | (simp; done) | (simp; omega)) hsw3; have i1 : w3.frozen? ⟨w.heap.size + 1, 0, none⟩ = false := (hfw3 _ _ (by first | exact z2 | (simp; omega))).trans (by first | exact f1 | (simp [go_sem, z2, f1]; done)); have i2 : w3.frozen? ⟨w.heap.size + 1, 1, none⟩ = false := (hfw3 _ _ (by first | exact z2 | (simp; omega))).trans (by first | exact f2 | (simp [go_sem, z2, f2]; done)); have i3 : w3.frozen? ⟨w.heap.size, 0, none⟩ = false := (hfw3 _ _ (by first | exact z1 | (simp; omega))).trans (by first | exact f3 | (simp [go_sem, z1, f3]; done)); have i4 : w3.frozen? ⟨w.heap.size, 1, none⟩ = false := (hfw3 _ _ (by first | exact z1 | (simp; omega))).trans (by first | exact f4 | (simp [go_sem, z1, f4]; done)))
          all_goals
            go_wp2_with (fail)
            go_meet
            case rel =>
              go_light
              exact ⟨_, _, _, _, rfl, rfl, rfl, mm, ff, by omega, by first | (simp; done) | (simp at hsw3 ⊢; omega), by first | (simp [go_sem]; done) | simp [go_sem, hcw3], by first | (simp [go_sem]; done) | simp [go_sem, hcw3],
                by first | (simp [go_sem, g1]; done) | (simp [go_sem, g1, y2]; done), by first | (simp [go_sem, g2]; done) | (simp [go_sem, g2, y2]; done), by first | (simp [go_sem, g3]; done) | (simp [go_sem, g3, y1]; done), by first | (simp [go_sem, g4]; done) | (simp [go_sem, g4, y1]; done),
                by first | (simp [go_sem, i1]; done) | (simp [go_sem, i1, y2]; done), by first | (simp [go_sem, i2]; done) | (simp [go_sem, i2, y2]; done), by first | (simp [go_sem, i3]; done) | (simp [go_sem, i3, y1]; done), by first | (simp [go_sem, i4]; done) | (simp [go_sem, i4, y1]; done), by simp; omega, by go_grown⟩
        case rest =>
          obtain ⟨nb, h3, l3, b3, rfl, rfl, rfl, ⟨m0, m1, m2, m3⟩, st, n1, n2, e1, e2, c1, c2, c3, c4, f1, f2, f3, f4, hsz, HB⟩ := hcut
          have z1 : w.heap.size < wc.heap.size := by omega
          have z2 : w.heap.size + 1 < wc.heap.size := by omega
          have q1 : ¬ w.heap.size + 1 = nb := by omega
          have q2 : ¬ nb = w.heap.size + 1 := by omega
          rcases st with ⟨d0, d1, (⟨rfl, fv⟩ | ⟨rfl, rfl, rfl, fv⟩)⟩ | ⟨nd, rfl, rfl, rfl⟩
          · have FV : Hid _ := fv
            clear fv
            go_wp2
            go_roundw
            case rel =>
              go_light
              refine ⟨k + 1, h3, l3, by omega, by go_num, m0, m1, m2, m3, ?_, ?_, ?_⟩
              · rw [TS.out]; exact digs_snoc hdg d0 d1
              · unfold Hid; rw [TS.out, dval_snoc, FV.out, HV.out]
              · exact ⟨by simp [go_sem, c1], by simp [go_sem, c2], by simp [go_sem, c3], by simp [go_sem, c4], by simp [go_sem, f1], by simp [go_sem, f2], by simp [go_sem, f3], by simp [go_sem, f4], by simp; omega, by go_grown⟩
            case measure => simp [intOf]; omega
          · have FV : Hid _ := fv
            clear fv
            go_wp2
            refine bodyPost_ret (v := .tuple #[.agg #[.int .u64 0, .int .u64 0], .bool false]) (by simp [results, Try.results13, go_sem, c3, c4]) rfl ⟨_, _, _, rfl, ⟨by omega, by omega, by omega, by omega⟩, Or.inr ⟨rfl, rfl, rfl, ?_⟩, by go_grown⟩
            exact not_long s k hlt h l FV.out HV.out TS.out
          · have ND : Hid _ := nd
            clear nd
            go_wp2
            refine bodyPost_ret (v := .tuple #[.agg #[.int .u64 0, .int .u64 0], .bool false]) (by simp [results, Try.results13, go_sem, c3, c4]) rfl ⟨_, _, _, rfl, ⟨by omega, by omega, by omega, by omega⟩, Or.inr ⟨rfl, rfl, rfl, ?_⟩, by go_grown⟩
            exact fun hh => ND.out (hh.1 _ hmem.out)
      · obtain rfl : k = s.size := by omega
        have TA : Hid (s.data.toList.take s.size = s.data.toList) := by unfold Hid; exact List.take_of_length_le (by rw [Array.length_toList]; exact Nat.le_refl _)
        go_wp2
        refine bodyPost_ret (v := .tuple #[.agg #[.int .u64 h, .int .u64 l], .bool true]) (by simp [results, Try.results13, go_sem, c3, c4]) rfl ⟨_, _, _, rfl, ⟨k0, k1, k2, k3⟩, Or.inl ⟨rfl, ?_, ?_⟩, by go_grown⟩
        · rw [TA.out] at hdg; exact hdg
        · have := HV.out; rw [TA.out] at this; exact this

/-- Parse: the number whose text it just is, and true; or 0, false. -/
theorem parse_any (s : ByteArray) (w : World) (hm : s.size ≤ maxLen) :
    Calls Try.prog 13 #[.string s] w fun e w' =>
      ∃ (h l : Int) (b : Bool), e = .returned (.tuple #[.agg #[.int .u64 h, .int .u64 l], .bool b]) ∧ Wok h l ∧
        ((b = true ∧ good s ∧ h * 18446744073709551616 + l = dval s.data.toList) ∨ (b = false ∧ h = 0 ∧ l = 0 ∧ ¬ (good s ∧ dval s.data.toList < 340282366920938463463374607431768211456))) ∧ Below w.heap.size w w' := by
  by_cases hz : s.size = 0
  · refine (parse_empty s w hz).mono ?_
    rintro e w' ⟨rfl, hb⟩
    exact ⟨_, _, _, rfl, ⟨by omega, by omega, by omega, by omega⟩, Or.inr ⟨rfl, rfl, rfl, fun hh => by have := hh.1.2.1; omega⟩, hb⟩
  · have hh : s.data.toList.head? = some s[0] := by
      have hl : s.data.toList.length = s.size := Array.length_toList
      rw [List.head?_eq_getElem?, List.getElem?_eq_getElem (by omega)]
      rfl
    by_cases h1 : 1 < s.size ∧ s[0].toNat = 48
    · refine (parse_zero s w hm h1.1 h1.2).mono ?_
      rintro e w' ⟨rfl, hb⟩
      refine ⟨_, _, _, rfl, ⟨by omega, by omega, by omega, by omega⟩, Or.inr ⟨rfl, rfl, rfl, fun hx => hx.1.2.2 h1.1 ?_⟩, hb⟩
      rw [hh, Option.map_some, h1.2]
    · have h2 : 1 < s.size → ¬ s[0].toNat = 48 := fun a b => h1 ⟨a, b⟩
      refine (parse_loop s w hm (by omega) h2).mono ?_
      rintro e w' ⟨h, l, b, rfl, m, f, hb⟩
      refine ⟨_, _, _, rfl, m, ?_, hb⟩
      rcases f with ⟨rfl, f1, f2⟩ | ⟨rfl, rfl, rfl, f⟩
      · refine Or.inl ⟨rfl, ⟨f1, by omega, fun a => ?_⟩, f2⟩
        rw [hh, Option.map_some]; intro hc; exact h2 a (by simpa using hc)
      · exact Or.inr ⟨rfl, rfl, rfl, fun hx => f ⟨hx.1.1, hx.2⟩⟩

end Go.Proofs.Ytahmgbaonldlfaa
