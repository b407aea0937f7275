/-
  The document's great numbers (a row of digits, the least first) at this program: what a row of digits is worth, and the contract of 'times'. Conditions: digits, small factors, rows of at most a thousand digits.
  Contracts of package wide's withDigit and Parse at this program. Conditions: all words lie below 2^64; a byte is from 0 to 255.
  The contract of package wide's Parse at this program, over any text: which number its digits make. Conditions: none beyond the text's length fitting the machine.
-/
import Derived.Test.YtpbgolcimbjekaaGreatDoorQ27
import Derived.OwnWalk
import Derived.Test.YtpbgolcimbjekaaGreatDoorQ03
import Derived.Deep.RegionWith
import Derived.Deep.CutRange
import Derived.Deep.DeepCutAuto
namespace Go.Proofs.YtpbgolcimbjekaaGreatDoor
open Go.RowKit

/-- A row of digits, the least first: its worth. -/
def val : List Nat → Nat
  | [] => 0
  | d :: r => d + 10 * val r
theorem val_append : ∀ a b : List Nat, val (a ++ b) = val a + 10 ^ a.length * val b
  | [], b => by simp [val]
  | d :: r, b => by
    rw [List.cons_append, val, val_append r b, val, List.length_cons, Nat.pow_succ, Nat.mul_add]
    rw [Nat.mul_comm (10 ^ r.length) 10, Nat.mul_assoc]
    omega
/-- The digits of a small number. -/
def cdig : Nat → Nat → List Nat
  | 0, _ => []
  | f + 1, c => if c = 0 then [] else c % 10 :: cdig f (c / 10)
/-- So many times, and so much more. -/
def tm (k : Nat) : Nat → List Nat → List Nat
  | c, [] => cdig 3 c
  | c, d :: r => (c + d * k) % 10 :: tm k ((c + d * k) / 10) r
theorem cdig_val : ∀ f c, c < 10 ^ f → val (cdig f c) = c
  | 0, c, h => by simp at h; subst h; rfl
  | f + 1, c, h => by
    rw [cdig]
    split
    · simp [val, *]
    · rw [val, cdig_val f (c / 10) (by rw [Nat.pow_succ] at h; omega)]; omega
theorem tm_val (k : Nat) (hk : k ≤ 10) : ∀ (ds : List Nat) (c : Nat), c ≤ 10 → (∀ d ∈ ds, d < 10) → val (tm k c ds) = val ds * k + c
  | [], c, h, _ => by rw [tm, cdig_val 3 c (by omega)]; simp [val]
  | d :: r, c, h, hd => by
    have d9 := hd d (by simp)
    have p : d * k ≤ 9 * 10 := Nat.mul_le_mul (by omega) hk
    rw [tm, val, tm_val k hk r _ (by omega) (fun x hx => hd x (by simp [hx])), val, Nat.add_mul, Nat.mul_assoc]
    omega
theorem cdig_lt : ∀ f c, ∀ d ∈ cdig f c, d < 10
  | 0, c, d, h => by simp [cdig] at h
  | f + 1, c, d, h => by
    rw [cdig] at h
    split at h
    · simp at h
    · rcases List.mem_cons.1 h with rfl | h
      · omega
      · exact cdig_lt f _ d h
theorem tm_lt (k : Nat) : ∀ (ds : List Nat) (c : Nat), ∀ d ∈ tm k c ds, d < 10
  | [], c, d, h => cdig_lt 3 c d h
  | x :: r, c, d, h => by
    rw [tm] at h
    rcases List.mem_cons.1 h with rfl | h
    · omega
    · exact tm_lt k r _ d h
theorem cdig_len : ∀ f c, (cdig f c).length ≤ f
  | 0, c => by simp [cdig]
  | f + 1, c => by
    rw [cdig]; split
    · simp
    · have := cdig_len f (c / 10); simp; omega
theorem tm_len (k : Nat) : ∀ (ds : List Nat) (c : Nat), (tm k c ds).length ≤ ds.length + 3
  | [], c => by have := cdig_len 3 c; simpa [tm] using this
  | x :: r, c => by
    have := tm_len k r ((c + x * k) / 10)
    rw [tm]; simp; omega

/-- A slice reads as a row of digits. -/
def Rd (W : World) (v : Value) (ds : List Nat) : Prop := ∃ (a : Option Addr) (cap : Nat), v = .slice a ds.length cap ∧ ds.length ≤ cap ∧ cap ≤ maxLen ∧
  ∀ (j d : Nat), ds[j]? = some d → ∃ b off : Nat, a = some ⟨b, off, none⟩ ∧ W.cell? ⟨b, off + j, none⟩ = some (.int .i64 (d : Int)) ∧ b < W.heap.size
theorem Rd.later {W w1 : World} {v : Value} {ds : List Nat} (h : Rd W v ds) (hb : Below W.heap.size W w1) : Rd w1 v ds := by
  obtain ⟨a, cap, e, h1, h2, h3⟩ := h
  refine ⟨a, cap, e, h1, h2, fun j d hj => ?_⟩
  obtain ⟨b, off, e1, e2, e3⟩ := h3 j d hj
  exact ⟨b, off, e1, cell_later hb e2, Nat.lt_of_lt_of_le e3 hb.size⟩
theorem Rd.nil (W : World) : Rd W (.slice none 0 0) [] := ⟨none, 0, rfl, by simp, by simp [maxLen], fun j d h => by simp at h⟩
def enc (d : Nat) : Value := .int .i64 (d : Int)
theorem Rd.own {W : World} {base : Nat} {e : TypeId} {v : Value} {ds : List Nat} (h : W.ownsRow base e 1 v ds.length (ds.map enc)) : Rd W v ds := by
  have hc := fun g hg => h.cells (g := g) hg
  have hl := h.lt
  obtain ⟨-, ⟨rfl, hn⟩ | ⟨g, cap, cur, rfl, -, hb, h1, h2, -⟩⟩ := h
  · obtain rfl : ds = [] := List.length_eq_zero_iff.1 hn
    exact Rd.nil W
  · refine ⟨_, cap, rfl, h1, h2, fun j d hj => ⟨g, 0, rfl, ?_, (hl g rfl).2⟩⟩
    have := hc g rfl j (enc d) (by rw [List.getElem?_map, hj]; rfl)
    by_cases j0 : j = 0
    · subst j0; simpa [Addr.add, enc] using this
    · simpa [Addr.add, enc, j0] using this

theorem intInfo : (Tryz.prog.info? 3).map (fun i => (i.zero, i.size, i.bytes)) = some (some (.int .i64 0), 1, 8) := by kernel_rfl

set_option maxHeartbeats 1000000 in
set_option maxRecDepth 100000 in
theorem times_num {v : Value} {ds : List Nat} {k c : Nat} (w : World) (h : Rd w v ds) (hk : k ≤ 10) (hc : c ≤ 10) (hd : ∀ d ∈ ds, d < 10) (hl : ds.length ≤ 1000) :
    Calls Tryz.prog 59 #[v, .int .i64 (k : Int), .int .i64 (c : Int)] w fun e w' => ∃ v' : Value, e = .returned v' ∧ Rd w' v' (tm k c ds) ∧ Below w.heap.size w w' := by
  obtain ⟨R, hR⟩ : ∃ R, R = tm k c ds := ⟨_, rfl⟩
  have HR : Hid ([] ++ tm k c (ds.drop 0) = R) := by unfold Hid; rw [hR]; simp
  have RL : R.length ≤ 1003 := by rw [hR]; have := tm_len k ds c; omega
  rw [← hR]
  clear hR
  obtain ⟨a, cap, rfl, h1, h2, h3⟩ := h
  have H3 : Hid (∀ (j d : Nat), ds[j]? = some d → ∃ b off : Nat, a = some ⟨b, off, none⟩ ∧ w.cell? ⟨b, off + j, none⟩ = some (.int .i64 (d : Int)) ∧ b < w.heap.size) := h3
  have HD : Hid (∀ d ∈ ds, d < 10) := hd
  clear h3 hd
  obtain ⟨i0, hi, hz0, hz1, hz2⟩ := info_parts intInfo
  go_enter Tryz.func59, Tryz.ntmps59
  go_wp2
  go_loopw [2, 7, 13] (fun p o f wr => ∃ (j c : Nat) (os : List Nat), f = .int .i64 j ∧ j ≤ ds.length ∧ p = .int .i64 c ∧ c ≤ 10 ∧ wr.ownsRow w.heap.size 3 1 o os.length (os.map enc) ∧ Hid (os ++ tm k c (ds.drop j) = R) ∧ Below w.heap.size w wr) (fun _ _ f _ => ds.length - (intOf f).toNat)
  case atStart => exact ⟨0, c, [], rfl, by omega, rfl, hc, World.ownsRow_made w #[] 0 (Nat.le_refl _) (by simp) rfl, HR, by go_grown⟩
  case round =>
    obtain ⟨j, c', os, rfl, jl, rfl, cl, hown, HO, HB⟩ := hrel
    have hsB := HB.size
    by_cases cj : j < ds.length
    · obtain ⟨d, hdj⟩ : ∃ d, ds[j]? = some d := ⟨ds[j], List.getElem?_eq_getElem cj⟩
      obtain ⟨b, off, rfl, cell, bw⟩ := H3.out j d hdj
      have cw : wr.cell? ⟨b, off + j, none⟩ = some (.int .i64 (d : Int)) := (HB.cell (by exact bw)).trans cell
      have d9 : d < 10 := HD.out d (List.mem_of_getElem? hdj)
      have dk : d * k ≤ 9 * 10 := Nat.mul_le_mul (by omega) hk
      have p0 : (0 : Int) ≤ (d : Int) * (k : Int) := Int.mul_nonneg (by omega) (by omega)
      have p1 : (d : Int) * (k : Int) ≤ 90 := by
        have : ((d * k : Nat) : Int) ≤ 90 := by omega
        simpa using this
      have E := HO.out
      rw [List.drop_eq_getElem_cons cj, show ds[j] = d from (List.getElem?_eq_some_iff.1 hdj).2, tm] at E
      have ol : os.length + 1 ≤ R.length := by rw [← E]; simp
      have HO' : Hid ((os ++ [(c' + d * k) % 10]) ++ tm k ((c' + d * k) / 10) (ds.drop (j + 1)) = R) := by unfold Hid; rw [← E]; simp
      have j0 : (0 : Int) ≤ (j : Int) := by omega
      have j1 : (j : Int) < (ds.length : Int) := by omega
      have xe : ((c' : Int) + (d : Int) * (k : Int)) % 10 = (((c' + d * k) % 10 : Nat) : Int) := by simp
      have xq : ((c' : Int) + (d : Int) * (k : Int)) / 10 = (((c' + d * k) / 10 : Nat) : Int) := by simp
      have XE : Hid _ := xe
      have XQ : Hid _ := xq
      clear E HO xe xq cell hdj
      go_wp2_with (first
        | (at_builtin; refine wpList_append_own _ rfl _ _ 97 rfl w.heap.size 3 i0 (.int .i64 0) 1 8 Tryz.underlying97 hi hz0 hz1 hz2 rfl (by decide) _ _ _ rfl (hown.alloc _) ⟨wr.heap.size, 0, none⟩ 1 1 [.int .i64 (((c' : Int) + (d : Int) * (k : Int)) % 10)] rfl rfl ?c1 ?c2 ?c3 ?c4 ?c5 ?_)
        | fail)
      case c1 =>
        intro j u hj
        match j, hj with
        | 0, hj => simp at hj; subst hj; simp [Addr.add]
      case c2 => intro u hu; simp at hu; subst hu; rfl
      case c3 => unfold maxLen; omega
      case c4 => omega
      case c5 => simp; omega
      · intro v' w1 hown' hgrow _
        have o2 : w1.ownsRow w.heap.size 3 1 v' (os ++ [(c' + d * k) % 10]).length ((os ++ [(c' + d * k) % 10]).map enc) := by
          rw [XE.out] at hown'
          simpa [enc] using hown'
        have HB1 : Below w.heap.size w w1 := (HB.alloc HB.size _).grown hgrow (by simp; omega) (fun k hk => (hown.lt k hk).1)
        clear hown' hgrow hown
        go_wp2
        go_roundw
        case rel => exact ⟨j + 1, (c' + d * k) / 10, os ++ [(c' + d * k) % 10], by go_num, by omega, by rw [← XQ.out], by omega, o2, HO', HB1⟩
        case measure => simp [intOf]; omega
    · obtain rfl : j = ds.length := by omega
      have E := HO.out
      rw [List.drop_length, tm] at E
      have HO' : Hid (os ++ cdig 3 c' = R) := E
      clear E HO cj jl
      go_wp2
      go_loopw [2, 7] (fun p o wr => ∃ (f c : Nat) (os : List Nat), p = .int .i64 c ∧ c < 10 ^ f ∧ f ≤ 3 ∧ c ≤ 1000 ∧ wr.ownsRow w.heap.size 3 1 o os.length (os.map enc) ∧ Hid (os ++ cdig f c = R) ∧ Below w.heap.size w wr) (fun p _ _ => (intOf p).toNat)
      case atStart => exact ⟨3, c', os, rfl, by omega, by omega, by omega, hown, HO', HB⟩
      case round =>
        clear hown HO' HB hsB
        obtain ⟨f, c', os, rfl, cf, f3, cl, hown, HO, HB⟩ := hrel
        have hsB := HB.size
        by_cases cz : c' = 0
        · subst cz
          have E : os = R := by
            have := HO.out
            cases f <;> simpa [cdig] using this
          subst E
          clear HO
          go_wp2
          go_ret
          exact ⟨_, rfl, Rd.own hown, HB⟩
        · obtain ⟨f, rfl⟩ : ∃ f', f = f' + 1 := by
            cases f with
            | zero => simp at cf; omega
            | succ f => exact ⟨f, rfl⟩
          have E := HO.out
          rw [cdig, if_neg cz] at E
          have ol : os.length + 1 ≤ R.length := by rw [← E]; simp
          have HO' : Hid ((os ++ [c' % 10]) ++ cdig f (c' / 10) = R) := by unfold Hid; rw [← E]; simp
          have cf' : c' / 10 < 10 ^ f := by rw [Nat.pow_succ] at cf; omega
          have CF : Hid _ := cf'
          have XE : Hid (((c' : Int)) % 10 = ((c' % 10 : Nat) : Int)) := by unfold Hid; simp
          have XQ : Hid (((c' : Int)) / 10 = ((c' / 10 : Nat) : Int)) := by unfold Hid; simp
          have c0 : (0 : Int) < (c' : Int) := by omega
          clear E HO cf cf'
          go_wp2_with (first
            | (at_builtin; refine wpList_append_own _ rfl _ _ 97 rfl w.heap.size 3 i0 (.int .i64 0) 1 8 Tryz.underlying97 hi hz0 hz1 hz2 rfl (by decide) _ _ _ rfl (hown.alloc _) ⟨wr.heap.size, 0, none⟩ 1 1 [.int .i64 ((c' : Int) % 10)] rfl rfl ?e1 ?e2 ?e3 ?e4 ?e5 ?_)
            | fail)
          case e1 =>
            intro j u hj
            match j, hj with
            | 0, hj => simp at hj; subst hj; simp [Addr.add]
          case e2 => intro u hu; simp at hu; subst hu; rfl
          case e3 => unfold maxLen; omega
          case e4 => omega
          case e5 => simp; omega
          · intro v' w1 hown' hgrow _
            have o2 : w1.ownsRow w.heap.size 3 1 v' (os ++ [c' % 10]).length ((os ++ [c' % 10]).map enc) := by
              rw [XE.out] at hown'
              simpa [enc] using hown'
            have HB1 : Below w.heap.size w w1 := (HB.alloc HB.size _).grown hgrow (by simp; omega) (fun k hk => (hown.lt k hk).1)
            clear hown' hgrow hown
            go_wp2
            go_roundw
            case rel => exact ⟨f, c' / 10, os ++ [c' % 10], by rw [← XQ.out], CF.out, by omega, by omega, o2, HO', HB1⟩
            case measure => simp [intOf]; omega

end Go.Proofs.YtpbgolcimbjekaaGreatDoor

namespace Go.Proofs.YtpbgolcimbjekaaGreatDoor
open Go.RowKit

theorem dig_wrap (c : Int) (c0 : 48 ≤ c) (c1 : c ≤ 57) : IntKind.u64.wrap (IntKind.u8.wrap (c - 48)) = c - 48 := by
  simp only [IntKind.wrap_u64, IntKind.wrap_u8]; omega

end Go.Proofs.YtpbgolcimbjekaaGreatDoor

namespace Go.Proofs.YtpbgolcimbjekaaGreatDoor
open Go.RowKit

/-- The number that digits make, the greatest first. -/
def dval (l : List UInt8) : Int := l.foldl (fun v c => v * 10 + ((c.toNat : Int) - 48)) 0
def digs (l : List UInt8) : Prop := ∀ c ∈ l, 48 ≤ c.toNat ∧ c.toNat ≤ 57

theorem dval_snoc (l : List UInt8) (c : UInt8) : dval (l ++ [c]) = dval l * 10 + ((c.toNat : Int) - 48) := by
  simp [dval]
theorem dval_append (l m : List UInt8) : dval (l ++ m) = m.foldl (fun v c => v * 10 + ((c.toNat : Int) - 48)) (dval l) := by
  simp [dval]
theorem fold_mono (m : List UInt8) : ∀ v : Int, 0 ≤ v → digs m → v ≤ m.foldl (fun v c => v * 10 + ((c.toNat : Int) - 48)) v := by
  induction m with
  | nil => intro v _ _; simp
  | cons c t ih =>
    intro v hv hd
    have hc := hd c (by simp)
    have := ih (v * 10 + ((c.toNat : Int) - 48)) (by omega) (fun x hx => hd x (by simp [hx]))
    simp only [List.foldl_cons]
    omega
theorem digs_snoc {l : List UInt8} {c : UInt8} (h : digs l) (h0 : 48 ≤ c.toNat) (h1 : c.toNat ≤ 57) : digs (l ++ [c]) := by
  intro x hx
  rcases List.mem_append.1 hx with hx | hx
  · exact h x hx
  · simp at hx; subst hx; exact ⟨h0, h1⟩
theorem take_snoc (s : ByteArray) (k : Nat) (h : k < s.size) : s.data.toList.take (k + 1) = s.data.toList.take k ++ [s[k]] := by
  rw [List.take_succ_eq_append_getElem (by simpa using h)]; rfl

/-- Is a text a number's own? -/
def good (s : ByteArray) : Prop := digs s.data.toList ∧ 0 < s.size ∧ (1 < s.size → ¬ (s.data.toList.head?.map UInt8.toNat = some 48))

/-- One digit more: what withDigit answers. -/
def Step (h l : Int) (c : UInt8) (h3 l3 : Int) (b3 : Bool) : Prop :=
  (48 ≤ c.toNat ∧ c.toNat ≤ 57 ∧ Fits h3 l3 b3 ((h * 18446744073709551616 + l) * 10 + ((c.toNat : Int) - 48))) ∨ (¬ (48 ≤ c.toNat ∧ c.toNat ≤ 57) ∧ b3 = false ∧ h3 = 0 ∧ l3 = 0)

theorem not_long (s : ByteArray) (k : Nat) (hlt : k < s.size) (h l : Int) (fv : 340282366920938463463374607431768211456 ≤ (h * 18446744073709551616 + l) * 10 + ((s[k].toNat : Int) - 48))
    (hv : h * 18446744073709551616 + l = dval (s.data.toList.take k)) (ts : s.data.toList.take (k + 1) = s.data.toList.take k ++ [s[k]]) :
    ¬ (digs s.data.toList ∧ dval s.data.toList < 340282366920938463463374607431768211456) := by
  rintro ⟨hd, hv2⟩
  have e : dval (s.data.toList.take (k + 1)) = (h * 18446744073709551616 + l) * 10 + ((s[k].toNat : Int) - 48) := by rw [ts, dval_snoc, hv]
  have m := fold_mono (s.data.toList.drop (k + 1)) (dval (s.data.toList.take (k + 1))) (by omega) (fun c hc => hd c (List.mem_of_mem_drop hc))
  rw [← dval_append, List.take_append_drop] at m
  omega

end Go.Proofs.YtpbgolcimbjekaaGreatDoor
