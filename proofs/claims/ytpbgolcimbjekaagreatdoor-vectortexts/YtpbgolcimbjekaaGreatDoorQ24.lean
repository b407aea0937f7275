/-
  Plain facts on numbers of sixteen-bit digits, the least first: what twenty of them make. No condition but those that each fact names; no program is spoken of.
  Contracts of the document's own answers for layer 1 (numbers as twenty digits of sixteen bits) at this program: Less. Conditions: digits lie below 2^16.
  Contracts of the document's own answers for layer 1 (numbers as twenty digits of sixteen bits) at this program: Of, Minus. Conditions: words lie below 2^64, digits below 2^16.
  Contracts of the document's own answers for layer 1 (numbers as twenty digits of sixteen bits) at this program: Minus, Wide. Conditions: digits lie below 2^16.
-/
import Derived.Test.YtpbgolcimbjekaaGreatDoorQ01
import Derived.Test.YtpbgolcimbjekaaGreatDoorQ03
import Derived.Deep.QuietTactic
import Derived.BigQuiet
import Derived.Deep.MidRow
import Derived.Deep.RegionHeld3
namespace Go.Proofs.YtpbgolcimbjekaaGreatDoor

/-- What the n least digits make. -/
def sv (D : Nat → Int) : Nat → Int
  | 0 => 0
  | n + 1 => sv D n + D n * 65536 ^ n
def Digs (D : Nat → Int) : Prop := ∀ i, 0 ≤ D i ∧ D i < 65536

theorem pow_pos16 (n : Nat) : (0 : Int) < 65536 ^ n := Int.pow_pos (by omega)
theorem sv_nonneg (D : Nat → Int) (h : Digs D) (n : Nat) : 0 ≤ sv D n := by
  induction n with
  | zero => simp [sv]
  | succ n ih =>
    have := Int.mul_nonneg (h n).1 (Int.le_of_lt (pow_pos16 n))
    simp only [sv]; omega
theorem sv_lt (D : Nat → Int) (h : Digs D) (n : Nat) : sv D n < 65536 ^ n := by
  induction n with
  | zero => simp [sv]
  | succ n ih =>
    have a : D n * 65536 ^ n ≤ 65535 * 65536 ^ n := Int.mul_le_mul_of_nonneg_right (by have := (h n).2; omega) (Int.le_of_lt (pow_pos16 n))
    simp only [sv, Int.pow_succ]
    omega
theorem sv_congr (D E : Nat → Int) (n : Nat) (h : ∀ i, i < n → D i = E i) : sv D n = sv E n := by
  induction n with
  | zero => rfl
  | succ n ih => simp only [sv]; rw [ih (fun i hi => h i (by omega)), h n (by omega)]

/-- The digits of a number of two words. -/
def od (ah al : Int) (i : Nat) : Int := if i < 4 then al / 65536 ^ i % 65536 else if i < 8 then ah / 65536 ^ (i - 4) % 65536 else 0
theorem od_digs (ah al : Int) : Digs (od ah al) := by
  intro i
  unfold od
  split
  · exact ⟨Int.emod_nonneg _ (by omega), Int.emod_lt_of_pos _ (by omega)⟩
  · split
    · exact ⟨Int.emod_nonneg _ (by omega), Int.emod_lt_of_pos _ (by omega)⟩
    · omega
theorem od_sv (ah al : Int) (a0 : 0 ≤ al) (a1 : al < 18446744073709551616) (b0 : 0 ≤ ah) (b1 : ah < 18446744073709551616) : sv (od ah al) 20 = ah * 18446744073709551616 + al := by
  simp only [sv, od]
  simp
  omega

/-- Sums with their carries. -/
def carry (d e : Nat → Int) : Nat → Int
  | 0 => 0
  | n + 1 => (carry d e n + d n + e n) / 65536
def psum (d e : Nat → Int) (i : Nat) : Int := (carry d e i + d i + e i) % 65536
theorem carry_bd (d e : Nat → Int) (hd : Digs d) (he : Digs e) (n : Nat) : 0 ≤ carry d e n ∧ carry d e n ≤ 1 := by
  induction n with
  | zero => simp [carry]
  | succ n ih =>
    have a := hd n; have b := he n
    simp only [carry]; omega
theorem psum_digs (d e : Nat → Int) : Digs (psum d e) := fun _ => ⟨Int.emod_nonneg _ (by omega), Int.emod_lt_of_pos _ (by omega)⟩
theorem psum_sv (d e : Nat → Int) (n : Nat) : sv (psum d e) n + carry d e n * 65536 ^ n = sv d n + sv e n := by
  induction n with
  | zero => simp [sv, carry]
  | succ n ih =>
    simp only [sv, carry, psum, Int.pow_succ]
    have k := Int.mul_ediv_add_emod (carry d e n + d n + e n) 65536
    generalize (carry d e n + d n + e n) / 65536 = q at *
    generalize hr : (carry d e n + d n + e n) % 65536 = r at *
    have e1 : r * 65536 ^ n + q * (65536 ^ n * 65536) = (carry d e n + d n + e n) * 65536 ^ n := by rw [← k]; grind
    have e2 : (carry d e n + d n + e n) * 65536 ^ n = carry d e n * 65536 ^ n + d n * 65536 ^ n + e n * 65536 ^ n := by grind
    have e3 : sv (fun i => (carry d e i + d i + e i) % 65536) n = sv (psum d e) n := rfl
    rw [e3] at *
    omega

/-- The first place, from the top, where two differ, tells which is less. -/
theorem sv_less (d e : Nat → Int) (hd : Digs d) (he : Digs e) (n k : Nat) (hk : k < n) (heq : ∀ i, k < i → i < n → d i = e i) (hl : d k < e k) : sv d n < sv e n := by
  induction n with
  | zero => omega
  | succ n ih =>
    simp only [sv]
    by_cases hkn : k = n
    · subst hkn
      have a := sv_lt d hd k
      have b := sv_nonneg e he k
      have c : (d k + 1) * 65536 ^ k ≤ e k * 65536 ^ k := Int.mul_le_mul_of_nonneg_right (by omega) (Int.le_of_lt (pow_pos16 k))
      rw [Int.add_mul] at c
      omega
    · have := ih (by omega) (fun i h1 h2 => heq i h1 (by omega))
      rw [heq n (by omega) (by omega)]
      omega
theorem sv_inj (d e : Nat → Int) (hd : Digs d) (he : Digs e) : ∀ n, sv d n = sv e n → ∀ i, i < n → d i = e i := by
  intro n
  induction n with
  | zero => intro _ i hi; omega
  | succ n ih =>
    intro h i hi
    have top : d n = e n := by
      rcases Int.lt_trichotomy (d n) (e n) with c | c | c
      · have := sv_less d e hd he (n + 1) n (by omega) (fun i h1 h2 => by omega) c; omega
      · exact c
      · have := sv_less e d he hd (n + 1) n (by omega) (fun i h1 h2 => by omega) c; omega
    simp only [sv, top] at h
    by_cases hi2 : i = n
    · rw [hi2]; exact top
    · exact ih (by omega) i (by omega)

/-- Differences with what they borrow. -/
def bor (d e : Nat → Int) : Nat → Int
  | 0 => 0
  | n + 1 => 1 - (d n + 65536 - e n - bor d e n) / 65536
def pdif (d e : Nat → Int) (i : Nat) : Int := (d i + 65536 - e i - bor d e i) % 65536
theorem bor_bd (d e : Nat → Int) (hd : Digs d) (he : Digs e) (n : Nat) : 0 ≤ bor d e n ∧ bor d e n ≤ 1 := by
  induction n with
  | zero => simp [bor]
  | succ n ih =>
    have a := hd n; have b := he n
    simp only [bor]; omega
theorem pdif_digs (d e : Nat → Int) : Digs (pdif d e) := fun _ => ⟨Int.emod_nonneg _ (by omega), Int.emod_lt_of_pos _ (by omega)⟩
theorem pdif_sv0 (d e : Nat → Int) (n : Nat) : sv (pdif d e) n = sv d n - sv e n + bor d e n * 65536 ^ n := by
  induction n with
  | zero => simp [sv, bor]
  | succ n ih =>
    simp only [sv, bor, Int.pow_succ]
    rw [ih]
    have k := Int.mul_ediv_add_emod (d n + 65536 - e n - bor d e n) 65536
    have hp : pdif d e n = (d n + 65536 - e n - bor d e n) % 65536 := rfl
    rw [hp]
    generalize (d n + 65536 - e n - bor d e n) / 65536 = q at *
    generalize (d n + 65536 - e n - bor d e n) % 65536 = r at *
    have e1 : r = d n + 65536 - e n - bor d e n - 65536 * q := by omega
    rw [e1]
    grind
theorem pdif_sv (d e : Nat → Int) (hd : Digs d) (he : Digs e) (n : Nat) (h : sv e n ≤ sv d n) : sv (pdif d e) n = sv d n - sv e n := by
  have a := pdif_sv0 d e n
  have b := bor_bd d e hd he n
  have c := sv_lt (pdif d e) (pdif_digs d e) n
  have p := pow_pos16 n
  have z : bor d e n = 0 := by
    refine Decidable.byContradiction fun hn => ?_
    have : bor d e n = 1 := by omega
    rw [this] at a
    omega
  rw [a, z]
  omega

/-- Digits read from the top. -/
def tp (d : Nat → Int) (o : Nat) : Nat → Int
  | 0 => 0
  | k + 1 => tp d o k * 65536 + d (o + 3 - k)
theorem tp_bd (d : Nat → Int) (o : Nat) (hd : Digs d) (k : Nat) : 0 ≤ tp d o k ∧ tp d o k < 65536 ^ k := by
  induction k with
  | zero => simp [tp]
  | succ k ih =>
    have a := hd (o + 3 - k)
    simp only [tp, Int.pow_succ]
    omega
theorem sv_eight (d : Nat → Int) : sv d 8 = tp d 4 4 * 18446744073709551616 + tp d 0 4 := by
  simp [sv, tp]
  omega
theorem sv_zero_up (d : Nat → Int) (n : Nat) (h : ∀ i, 8 ≤ i → i < n → d i = 0) (hn : 8 ≤ n) : sv d n = sv d 8 := by
  induction n with
  | zero => omega
  | succ n ih =>
    by_cases e : n + 1 = 8
    · rw [e]
    · have e1 : sv d (n + 1) = sv d n + d n * 65536 ^ n := rfl
      rw [e1, ih (fun i h1 h2 => h i h1 (by omega)) (by omega), h n (by omega) (by omega)]; omega
theorem sv_big (d : Nat → Int) (hd : Digs d) (n i : Nat) (h8 : 8 ≤ i) (hi : i < n) (h : d i ≠ 0) : 340282366920938463463374607431768211456 ≤ sv d n := by
  induction n with
  | zero => omega
  | succ n ih =>
    simp only [sv]
    have q := sv_nonneg d hd n
    have m := Int.mul_nonneg (hd n).1 (Int.le_of_lt (pow_pos16 n))
    by_cases e : i = n
    · subst e
      have p : (65536 : Int) ^ 8 ≤ 65536 ^ i := by
        have a : (65536 : Nat) ^ 8 ≤ 65536 ^ i := Nat.pow_le_pow_right (by omega) h8
        have b : ∀ k : Nat, (65536 : Int) ^ k = ((65536 ^ k : Nat) : Int) := fun k => by simp
        rw [b, b]; omega
      have c : 1 * (65536 : Int) ^ i ≤ d i * 65536 ^ i := Int.mul_le_mul_of_nonneg_right (by have := (hd i).1; omega) (Int.le_of_lt (pow_pos16 i))
      omega
    · have := ih (by omega)
      omega

end Go.Proofs.YtpbgolcimbjekaaGreatDoor

namespace Go.Proofs.YtpbgolcimbjekaaGreatDoor
open Go.RowKit

/-- The cells of twenty digits. -/
def dl (D : Nat → Int) : List Value := (List.range 20).map fun i => .int .u64 (D i)
theorem dl_get (D : Nat → Int) (i : Nat) (h : i < 20) : (dl D).toArray[i]? = some (.int .u64 (D i)) := by
  simp [dl, h]
theorem dl_len (D : Nat → Int) : (dl D).length = 20 := by simp [dl]

set_option maxHeartbeats 4000000 in
set_option maxRecDepth 100000 in
theorem less_any (d e : Nat → Int) (w : World) (hd : Digs d) (he : Digs e) :
    Calls Tryz.prog 48 #[.agg (dl d).toArray, .agg (dl e).toArray] w fun x w' => x = .returned (.bool (decide (sv d 20 < sv e 20))) ∧ Below w.heap.size w w' := by
  go_enter Tryz.func48, Tryz.ntmps48
  go_wp2
  go_loopw [5] (fun s5 wr => ∃ i : Int, -1 ≤ i ∧ i ≤ 19 ∧ s5 = .int .i64 i ∧ Hid (∀ j : Nat, i < j → j < 20 → d j = e j) ∧
      Hid (∀ j, j < 20 → wr.cell? ⟨w.heap.size, j, none⟩ = some (.int .u64 (d j))) ∧ Hid (∀ j, j < 20 → wr.cell? ⟨w.heap.size + 1, j, none⟩ = some (.int .u64 (e j))) ∧ Below w.heap.size w wr) (fun s5 _ => (intOf s5 + 1).toNat)
  case atStart =>
    refine ⟨19, by omega, by omega, rfl, ?_, ?_, ?_, by go_grown⟩
    · intro j h1 h2; omega
    · intro j hj; rw [World.cell?_alloc_past _ _ _ (by simp), World.cell?_alloc_at _ _ _ _ rfl]; exact dl_get d j hj
    · intro j hj; rw [World.cell?_alloc_at _ _ _ _ (by simp)]; exact dl_get e j hj
  case round =>
    obtain ⟨i, i0, i1, rfl, HE, HD, HF, HB⟩ := hrel
    by_cases hi : 0 ≤ i
    · obtain ⟨m, rfl⟩ := Int.eq_ofNat_of_zero_le hi
      have cd := HD.out m (by omega)
      have ce := HF.out m (by omega)
      have m0 : (0 : Int) ≤ (m : Int) := by omega
      have m1 : (m : Int) < 20 := by omega
      go_wp2_with (fail)
      go_quiet (fail)
      by_cases hne : d m = e m
      · go_wp2
        go_roundw
        case rel => exact ⟨(m : Int) - 1, by omega, by omega, rfl, fun j h1 h2 => (by
            by_cases hj : j = m
            · subst hj; exact hne
            · exact HE.out j (by omega) h2), HD.out, HF.out, below_drewN HB _⟩
        case measure => simp [intOf]
      · go_wp2_with (fail)
        go_quiet (fail)
        go_wp2
        go_ret
        refine ⟨congrArg Ending.returned (congrArg Value.bool ?_), by first | exact below_drewN HB _ | exact below_drewN (below_drewN HB _) _⟩
        go_light
        rcases Int.lt_or_gt_of_ne hne with h | h
        · have := sv_less d e hd he 20 m (by omega) (fun j h1 h2 => HE.out j (by omega) h2) h
          simp [h, this]
        · have := sv_less e d he hd 20 m (by omega) (fun j h1 h2 => (HE.out j (by omega) h2).symm) h
          have n1 : ¬ d m < e m := by omega
          have n2 : ¬ sv d 20 < sv e 20 := by omega
          simp [n1, n2]
    · have hx : i = -1 := by omega
      subst hx
      have eq : sv d 20 = sv e 20 := sv_congr d e 20 (fun j hj => HE.out j (by omega) hj)
      have ED : Hid (decide (sv d 20 < sv e 20) = false) := by unfold Hid; rw [eq]; simp
      clear eq
      go_wp2
      go_ret
      exact ⟨congrArg Ending.returned (congrArg Value.bool ED.out.symm), HB⟩

/-- Twenty digits lie in a block, and may be written. -/
def Tab (w : World) (b : Nat) (F : Nat → Int) : Prop := ∀ j, j < 20 → w.cell? ⟨b, j, none⟩ = some (.int .u64 (F j)) ∧ w.frozen? ⟨b, j, none⟩ = false
def upd (F : Nat → Int) (k : Nat) (v : Int) (i : Nat) : Int := if i = k then v else F i

theorem Tab.drewN {w : World} {b : Nat} {F : Nat → Int} (h : Tab w b F) (n : Nat) : Tab (w.drewN n) b F := h
theorem Tab.drew {w : World} {b : Nat} {F : Nat → Int} (h : Tab w b F) : Tab w.drew b F := h
theorem Tab.congr {w : World} {b : Nat} {F G : Nat → Int} (h : Tab w b F) (e : ∀ j, j < 20 → F j = G j) : Tab w b G := fun j hj => by rw [← e j hj]; exact h j hj
theorem Tab.set {w : World} {b : Nat} {F : Nat → Int} (h : Tab w b F) {k : Nat} (hk : k < 20) (v : Int) : Tab (w.setCell ⟨b, k, none⟩ (.int .u64 v)) b (upd F k v) := fun j hj => by
  refine ⟨?_, by rw [World.frozen?_setCell]; exact (h j hj).2⟩
  unfold upd
  by_cases e : j = k
  · subst e; rw [if_pos rfl]; exact World.cell?_setCell_same _ _ _ (h j hj).1
  · rw [if_neg e, World.cell?_setCell_other _ _ _ _ (by intro hh; exact e (by injection hh with _ h2 _; exact h2.symm))]; exact (h j hj).1
theorem Tab.other {w : World} {b : Nat} {F : Nat → Int} (h : Tab w b F) (p : Addr) (v : Value) (hp : p.block ≠ b) : Tab (w.setCell p v) b F := fun j hj =>
  ⟨by rw [World.cell?_setCell_other _ _ _ _ (by intro hh; exact hp (by rw [hh]))]; exact (h j hj).1, by rw [World.frozen?_setCell]; exact (h j hj).2⟩
theorem Tab.later {w w1 : World} {b : Nat} {F : Nat → Int} (h : Tab w b F) (hb : Below w.heap.size w w1) (hz : b < w.heap.size) : Tab w1 b F := fun j hj =>
  ⟨cell_later hb (h j hj).1, (hb.frozen (p := ⟨b, j, none⟩) hz).trans (h j hj).2⟩
theorem Tab.alloc {w : World} {b : Nat} {F : Nat → Int} (h : Tab w b F) (o : Obj) (hz : b < w.heap.size) : Tab (w.alloc o) b F := h.later ((Below.refl _ _).alloc (Nat.le_refl _) o) hz
theorem Tab.new (w : World) (F : Nat → Int) (t : TypeId) : Tab (w.alloc (.cells (dl F).toArray t)) w.heap.size F := fun j hj =>
  ⟨by rw [World.cell?_alloc_at _ _ _ _ rfl]; exact dl_get F j hj, by simp [go_sem]⟩
theorem Tab.new_at (w : World) (F : Nat → Int) (t : TypeId) (b : Nat) (hb : b = w.heap.size) : Tab (w.alloc (.cells (dl F).toArray t)) b F := by subst hb; exact Tab.new w F t
theorem Tab.zeros (w : World) (t : TypeId) (b : Nat) (hb : b = w.heap.size) : Tab (w.alloc (.cells (Array.replicate 20 (.int .u64 0)) t)) b (fun _ => 0) := by
  subst hb
  exact fun j hj => ⟨by rw [World.cell?_alloc_at _ _ _ _ rfl, Array.getElem?_replicate, if_pos hj], by simp [go_sem]⟩
theorem Tab.range {w : World} {b : Nat} {F : Nat → Int} (h : Tab w b F) : w.rangeAt b 0 (dl F) := fun j v hv => by
  have hj : j < 20 := by
    have := (List.getElem?_eq_some_iff.1 hv).1
    rw [dl_len] at this; exact this
  have e : (dl F)[j]? = some (.int .u64 (F j)) := by simp [dl, hj]
  rw [e] at hv
  rw [Nat.zero_add, (h j hj).1, hv]
theorem Tab.there {w : World} {b : Nat} {F : Nat → Int} (h : Tab w b F) : w.there b 0 20 := fun j hj => by
  rw [Nat.zero_add, (h j hj).1]
  exact ⟨rfl, (h j hj).2⟩
theorem dl_size (F : Nat → Int) : (dl F).toArray.size = 20 := by simp [dl]
theorem below_setCells {B : Nat} {a : World} (b : Nat) (hb : B ≤ b) : ∀ (vs : List Value) (o : Nat) {w : World}, Below B a w → Below B a (w.setCells b o vs) := by
  intro vs
  induction vs with
  | nil => intro o w h; exact h
  | cons v vs ih => intro o w h; exact ih (o + 1) (h.setCell hb v)
theorem dl_one (F : Nat → Int) : (dl F).toArray.all (·.oneCell') = true := all_oneCell_toArray (by
  intro v hv
  obtain ⟨i, _, rfl⟩ := List.mem_map.1 hv
  rfl)
theorem dig_info : (Tryz.prog.info? 63).map (·.size) = some 20 := by kernel_rfl

/-- The cells behind k rounds of a sum. -/
def mix (k : Nat) (f g : Nat → Int) (i : Nat) : Int := if i < k then f i else g i
theorem mix_same (k : Nat) (f g : Nat → Int) : mix k f g k = g k := by simp [mix]
theorem mix_upd (k : Nat) (f g : Nat → Int) (i : Nat) : upd (mix k f g) k (f k) i = mix (k + 1) f g i := by
  unfold upd mix
  by_cases e : i = k
  · subst e; rw [if_pos rfl, if_pos (by omega)]
  · rw [if_neg e]
    by_cases c : i < k
    · rw [if_pos c, if_pos (by omega)]
    · rw [if_neg c, if_neg (by omega)]

set_option maxHeartbeats 4000000 in
set_option maxRecDepth 100000 in
theorem plus_any (d e : Nat → Int) (w : World) (hd : Digs d) (he : Digs e) :
    Calls Tryz.prog 45 #[.agg (dl d).toArray, .agg (dl e).toArray] w fun x w' => x = .returned (.agg (dl (psum d e)).toArray) ∧ Below w.heap.size w w' := by
  go_enter Tryz.func45, Tryz.ntmps45
  go_wp2
  go_loopw [5, 6] (fun s5 s6 wr => ∃ k : Nat, k ≤ 20 ∧ s5 = .int .u64 (carry d e k) ∧ s6 = .int .i64 k ∧ Tab wr w.heap.size (mix k (psum d e) d) ∧ Tab wr (w.heap.size + 1) e ∧ (∃ G, Tab wr (w.heap.size + 1 + 1) G) ∧
      w.heap.size + 3 ≤ wr.heap.size ∧ Below w.heap.size w wr) (fun _ s6 _ => 20 - (intOf s6).toNat)
  case atStart =>
    refine ⟨0, by omega, rfl, rfl, ?_, ?_, ⟨_, Tab.zeros _ _ _ (by simp)⟩, by simp, by go_grown⟩
    · exact ((((Tab.new w d _).alloc _ (by simp)).alloc _ (by simp; omega))).congr (fun j _ => by simp [mix])
    · exact (Tab.new_at _ e _ _ (by simp)).alloc _ (by simp)
  case round =>
    obtain ⟨k, hk, rfl, rfl, HD, HE, ⟨G, HG⟩, hsz, HB⟩ := hrel
    have cb := carry_bd d e hd he k
    by_cases hlt : k < 20
    · have dk := hd k
      have ek := he k
      have cd := (HD k hlt).1
      rw [mix_same] at cd
      have ce := (HE k hlt).1
      have fk := (HD k hlt).2
      have m0 : (0 : Int) ≤ (k : Int) := by omega
      have m1 : (k : Int) < 20 := by omega
      go_wp2_with (fail)
      go_quiet (fail)
      go_wp2
      go_roundw
      case rel =>
        go_light
        exact ⟨k + 1, by omega, rfl, by go_num, ((HD.drewN _).set hlt _).congr (fun j _ => mix_upd k (psum d e) d j), (HE.drewN _).other _ _ (by simp), ⟨G, (HG.drewN _).other _ _ (by simp; omega)⟩, by simp; omega, (below_drewN HB _).setCell (by simp) _⟩
      case measure => simp [intOf]; omega
    · obtain rfl : k = 20 := by omega
      have HR := (HD.congr (G := psum d e) (fun j hj => by simp [mix, hj])).range
      have HT := HG.there
      have HS := World.rangeAt_setCells_same wr (w.heap.size + 1 + 1) 0 (dl (psum d e)) (by rw [dl_len]; exact HT)
      clear HD HE HG
      go_upto_region 8 with (fail)
      refine wp_region_lit ?_
      refine wpList_load_mid rfl _ _ rfl (w.heap.size) 0 rfl (dl (psum d e)) _ HR Tryz.underlying63 rfl (by rw [dl_len]; exact dig_info) ?_
      simp only [Act.put, List.setIfInBounds_toArray, List.set_cons_zero, List.set_cons_succ]
      have HT' : wr.there (w.heap.size + 1 + 1) 0 (dl (psum d e)).toArray.size := by rw [dl_size]; exact HT
      refine wpList_store_mid rfl _ _ _ rfl (w.heap.size + 1 + 1) 0 (dl (psum d e)).toArray rfl rfl HT' (by rw [dl_size]; exact dig_info) (dl_one _) ?_
      have HB' := below_setCells (w.heap.size + 1 + 1) (by omega) (dl (psum d e)).toArray.toList 0 HB
      rw [List.toList_toArray] at HB' ⊢
      generalize wr.setCells (w.heap.size + 1 + 1) 0 (dl (psum d e)) = W' at HS HB' ⊢
      go_wp2
      refine bodyPost_ret (v := .agg (dl (psum d e)).toArray) ?_ rfl ⟨rfl, HB'⟩
      have hl := run_loadVar_mid W' (w.heap.size + 1 + 1) 0 63 (dl (psum d e)) _ HS Tryz.underlying63 rfl (by rw [dl_len]; exact dig_info)
      simp [results, Tryz.results45, Act.put, asAddr, hl]

end Go.Proofs.YtpbgolcimbjekaaGreatDoor

namespace Go.Proofs.YtpbgolcimbjekaaGreatDoor
open Go.RowKit

/-- The digits behind k rounds of Of. -/
def ok (ah al : Int) (k i : Nat) : Int := if (i < 4 ∧ i < k) ∨ (4 ≤ i ∧ i < 8 ∧ i < 4 + k) then od ah al i else 0
theorem ok_next (ah al : Int) (k : Nat) (hk : k < 4) (i : Nat) : upd (upd (ok ah al k) k (od ah al k)) (4 + k) (od ah al (4 + k)) i = ok ah al (k + 1) i := by
  unfold upd ok
  by_cases e1 : i = 4 + k
  · subst e1; rw [if_pos rfl, if_pos (by omega)]
  · rw [if_neg e1]
    by_cases e2 : i = k
    · subst e2; rw [if_pos rfl, if_pos (by omega)]
    · rw [if_neg e2]
      by_cases c : (i < 4 ∧ i < k) ∨ (4 ≤ i ∧ i < 8 ∧ i < 4 + k)
      · rw [if_pos c, if_pos (by omega)]
      · rw [if_neg c, if_neg (by omega)]
theorem ok_all (ah al : Int) (i : Nat) : ok ah al 4 i = od ah al i := by
  unfold ok
  by_cases c : (i < 4 ∧ i < 4) ∨ (4 ≤ i ∧ i < 8 ∧ i < 4 + 4)
  · rw [if_pos c]
  · rw [if_neg c]; unfold od; rw [if_neg (by omega), if_neg (by omega)]
theorem od_low (ah al : Int) (k : Nat) (hk : k < 4) : od ah al k = al / 65536 ^ k % 65536 := by unfold od; rw [if_pos hk]
theorem od_up (ah al : Int) (k : Nat) (hk : k < 4) : od ah al (4 + k) = ah / 65536 ^ k % 65536 := by unfold od; rw [if_neg (by omega), if_pos (by omega), show 4 + k - 4 = k by omega]
theorem div16 (V : Int) (j : Nat) : V / 65536 ^ j / 65536 = V / 65536 ^ (j + 1) := by
  rw [Int.pow_succ, Int.ediv_ediv_of_nonneg (Int.pow_nonneg (by omega))]

set_option maxHeartbeats 4000000 in
set_option maxRecDepth 100000 in
theorem rof_any (ah al : Int) (w : World) (a0 : 0 ≤ al) (a1 : al < 18446744073709551616) (a2 : 0 ≤ ah) (a3 : ah < 18446744073709551616) :
    Calls Tryz.prog 29 #[.agg #[.int .u64 ah, .int .u64 al]] w fun x w' => x = .returned (.agg (dl (od ah al)).toArray) ∧ Below w.heap.size w w' := by
  go_enter Tryz.func29, Tryz.ntmps29
  go_wp2
  go_loopw [4] (fun s4 wr => ∃ (k : Nat) (x y : Int), k ≤ 4 ∧ s4 = .int .i64 k ∧ Hid (x = ah / 65536 ^ k) ∧ Hid (y = al / 65536 ^ k) ∧ 0 ≤ x ∧ x < 18446744073709551616 ∧ 0 ≤ y ∧ y < 18446744073709551616 ∧
      wr.cell? ⟨w.heap.size, 0, none⟩ = some (.int .u64 x) ∧ wr.cell? ⟨w.heap.size, 1, none⟩ = some (.int .u64 y) ∧ wr.frozen? ⟨w.heap.size, 0, none⟩ = false ∧ wr.frozen? ⟨w.heap.size, 1, none⟩ = false ∧
      Tab wr (w.heap.size + 1 + 1) (ok ah al k) ∧ (∃ G, Tab wr (w.heap.size + 1) G) ∧ w.heap.size + 3 ≤ wr.heap.size ∧ Below w.heap.size w wr) (fun s4 _ => 4 - (intOf s4).toNat)
  case atStart =>
    refine ⟨0, ah, al, by omega, rfl, by unfold Hid; simp, by unfold Hid; simp, a2, a3, a0, a1, by simp [go_sem], by simp [go_sem], by simp [go_sem], by simp [go_sem], ?_, ⟨_, (Tab.zeros _ _ _ (by simp)).alloc _ (by simp)⟩, by simp, by go_grown⟩
    exact (Tab.zeros _ _ _ (by simp)).congr (fun j _ => by unfold ok; rw [if_neg (by omega)])
  case round =>
    obtain ⟨k, x, y, hk, rfl, HX, HY, x0, x1, y0, y1, c0, c1, f0, f1, HD, ⟨G, HG⟩, hsz, HB⟩ := hrel
    by_cases hlt : k < 4
    · have c2 := (HD k (by omega)).1
      have f2 := (HD k (by omega)).2
      have c3 := (HD (4 + k) (by omega)).1
      have f3 := (HD (4 + k) (by omega)).2
      have m0 : (0 : Int) ≤ (k : Int) := by omega
      have m1 : (k : Int) < 4 := by omega
      have n1 : ¬ w.heap.size + 1 + 1 = w.heap.size := by omega
      have n2 : ¬ w.heap.size = w.heap.size + 1 + 1 := by omega
      go_wp2
      go_roundw
      case rel =>
        go_light
        refine ⟨k + 1, x / 65536, y / 65536, by omega, by go_num, ?_, ?_, by omega, by omega, by omega, by omega, by simp [go_sem, c0], by simp [go_sem, c1], by simp [go_sem, f0], by simp [go_sem, f1], ?_, ⟨G, ?_⟩, by simp; omega, ?_⟩
        · unfold Hid; rw [HX.out, div16]
        · unfold Hid; rw [HY.out, div16]
        · refine Tab.congr (((((HD.set (k := k) (by omega) (y % 65536)).set (k := 4 + k) (by omega) (x % 65536)).other _ _ (by first | (simp; done) | (simp; omega))).other _ _ (by first | (simp; done) | (simp; omega)))) (fun j _ => ?_)
          rw [← ok_next ah al k hlt, od_low ah al k hlt, od_up ah al k hlt, HX.out, HY.out]
        · exact (((HG.other _ _ (by first | (simp; done) | (simp; omega))).other _ _ (by first | (simp; done) | (simp; omega))).other _ _ (by first | (simp; done) | (simp; omega))).other _ _ (by first | (simp; done) | (simp; omega))
        · exact ((((HB.setCell (by simp; omega) _).setCell (by simp; omega) _).setCell (by simp) _).setCell (by simp) _)
      case measure => simp [intOf]; omega
    · obtain rfl : k = 4 := by omega
      have HD4 := HD.congr (G := od ah al) (fun j _ => ok_all ah al j)
      clear HD c0 c1 f0 f1
      have HR := Tab.range (HD4)
      have HT' : World.there wr (w.heap.size + 1) 0 (dl (od ah al)).toArray.size := by rw [dl_size]; exact Tab.there (HG)
      have HS := World.rangeAt_setCells_same wr (w.heap.size + 1) 0 (dl (od ah al)) (by rw [dl_len]; exact Tab.there (HG))
      go_upto_region 9 with (fail)
      refine wp_region_lit ?_
      refine wpList_load_mid rfl _ _ rfl (w.heap.size + 1 + 1) 0 rfl (dl (od ah al)) _ HR Tryz.underlying63 rfl (by rw [dl_len]; exact dig_info) ?_
      simp only [Act.put, List.setIfInBounds_toArray, List.set_cons_zero, List.set_cons_succ]
      refine wpList_store_mid rfl _ _ _ rfl (w.heap.size + 1) 0 (dl (od ah al)).toArray rfl rfl HT' (by rw [dl_size]; exact dig_info) (dl_one _) ?_
      have HB' := below_setCells (w.heap.size + 1) (by omega) (dl (od ah al)).toArray.toList 0 HB
      rw [List.toList_toArray] at HB' ⊢
      generalize World.setCells wr (w.heap.size + 1) 0 (dl (od ah al)) = W' at HS HB' ⊢
      go_wp2
      refine bodyPost_ret (v := .agg (dl (od ah al)).toArray) ?_ rfl ⟨rfl, HB'⟩
      have hl := run_loadVar_mid W' (w.heap.size + 1) 0 63 (dl (od ah al)) _ HS Tryz.underlying63 rfl (by rw [dl_len]; exact dig_info)
      simp [results, Tryz.results29, Act.put, asAddr, hl]

end Go.Proofs.YtpbgolcimbjekaaGreatDoor

namespace Go.Proofs.YtpbgolcimbjekaaGreatDoor
open Go.RowKit

set_option maxHeartbeats 4000000 in
set_option maxRecDepth 100000 in
theorem minus_any (d e : Nat → Int) (w : World) (hd : Digs d) (he : Digs e) :
    Calls Tryz.prog 49 #[.agg (dl d).toArray, .agg (dl e).toArray] w fun x w' => x = .returned (.agg (dl (pdif d e)).toArray) ∧ Below w.heap.size w w' := by
  go_enter Tryz.func49, Tryz.ntmps49
  go_wp2
  go_loopw [5, 6] (fun s5 s6 wr => ∃ k : Nat, k ≤ 20 ∧ s5 = .int .u64 (bor d e k) ∧ s6 = .int .i64 k ∧ Tab wr w.heap.size (mix k (pdif d e) d) ∧ Tab wr (w.heap.size + 1) e ∧ (∃ G, Tab wr (w.heap.size + 1 + 1) G) ∧
      w.heap.size + 3 ≤ wr.heap.size ∧ Below w.heap.size w wr) (fun _ s6 _ => 20 - (intOf s6).toNat)
  case atStart =>
    refine ⟨0, by omega, rfl, rfl, ?_, ?_, ⟨_, Tab.zeros _ _ _ (by simp)⟩, by simp, by go_grown⟩
    · exact ((((Tab.new w d _).alloc _ (by simp)).alloc _ (by simp; omega))).congr (fun j _ => by simp [mix])
    · exact (Tab.new_at _ e _ _ (by simp)).alloc _ (by simp)
  case round =>
    obtain ⟨k, hk, rfl, rfl, HD, HE, ⟨G, HG⟩, hsz, HB⟩ := hrel
    have cb := bor_bd d e hd he k
    by_cases hlt : k < 20
    · have dk := hd k
      have ek := he k
      have cd := (HD k hlt).1
      rw [mix_same] at cd
      have ce := (HE k hlt).1
      have fk := (HD k hlt).2
      have m0 : (0 : Int) ≤ (k : Int) := by omega
      have m1 : (k : Int) < 20 := by omega
      go_wp2_with (fail)
      go_quiet (fail)
      go_wp2
      go_roundw
      case rel =>
        go_light
        exact ⟨k + 1, by omega, rfl, by go_num, ((HD.drewN _).set hlt _).congr (fun j _ => mix_upd k (pdif d e) d j), (HE.drewN _).other _ _ (by simp), ⟨G, (HG.drewN _).other _ _ (by simp; omega)⟩, by simp; omega, (below_drewN HB _).setCell (by simp) _⟩
      case measure => simp [intOf]; omega
    · obtain rfl : k = 20 := by omega
      have HD4 := HD.congr (G := pdif d e) (fun j hj => by simp [mix, hj])
      clear HD HE
      have HR := Tab.range (HD4)
      have HT' : World.there wr (w.heap.size + 1 + 1) 0 (dl (pdif d e)).toArray.size := by rw [dl_size]; exact Tab.there (HG)
      have HS := World.rangeAt_setCells_same wr (w.heap.size + 1 + 1) 0 (dl (pdif d e)) (by rw [dl_len]; exact Tab.there (HG))
      go_upto_region 8 with (fail)
      refine wp_region_lit ?_
      refine wpList_load_mid rfl _ _ rfl (w.heap.size) 0 rfl (dl (pdif d e)) _ HR Tryz.underlying63 rfl (by rw [dl_len]; exact dig_info) ?_
      simp only [Act.put, List.setIfInBounds_toArray, List.set_cons_zero, List.set_cons_succ]
      refine wpList_store_mid rfl _ _ _ rfl (w.heap.size + 1 + 1) 0 (dl (pdif d e)).toArray rfl rfl HT' (by rw [dl_size]; exact dig_info) (dl_one _) ?_
      have HB' := below_setCells (w.heap.size + 1 + 1) (by omega) (dl (pdif d e)).toArray.toList 0 HB
      rw [List.toList_toArray] at HB' ⊢
      generalize World.setCells wr (w.heap.size + 1 + 1) 0 (dl (pdif d e)) = W' at HS HB' ⊢
      go_wp2
      refine bodyPost_ret (v := .agg (dl (pdif d e)).toArray) ?_ rfl ⟨rfl, HB'⟩
      have hl := run_loadVar_mid W' (w.heap.size + 1 + 1) 0 63 (dl (pdif d e)) _ HS Tryz.underlying63 rfl (by rw [dl_len]; exact dig_info)
      simp [results, Tryz.results49, Act.put, asAddr, hl]

set_option maxHeartbeats 4000000 in
set_option maxRecDepth 100000 in
theorem rwide_any (d : Nat → Int) (w : World) (hd : Digs d) :
    Calls Tryz.prog 31 #[.agg (dl d).toArray] w fun x w' => ∃ (h l : Int) (b : Bool), x = .returned (.tuple #[.agg #[.int .u64 h, .int .u64 l], .bool b]) ∧ Wok h l ∧ Fits h l b (sv d 20) ∧ Below w.heap.size w w' := by
  go_enter Tryz.func31, Tryz.ntmps31
  go_wp2
  go_loopw [5] (fun s5 wr => ∃ (k : Nat) (i x y : Int), k ≤ 4 ∧ i = 3 - (k : Int) ∧ s5 = .int .i64 i ∧ Hid (x = tp d 4 k) ∧ Hid (y = tp d 0 k) ∧ 0 ≤ x ∧ x < 65536 ^ k ∧ 0 ≤ y ∧ y < 65536 ^ k ∧
      wr.cell? ⟨w.heap.size + 1 + 1, 0, none⟩ = some (.int .u64 x) ∧ wr.cell? ⟨w.heap.size + 1 + 1, 1, none⟩ = some (.int .u64 y) ∧ wr.frozen? ⟨w.heap.size + 1 + 1, 0, none⟩ = false ∧ wr.frozen? ⟨w.heap.size + 1 + 1, 1, none⟩ = false ∧
      wr.cell? ⟨w.heap.size + 1, 0, none⟩ = some (.int .u64 0) ∧ wr.cell? ⟨w.heap.size + 1, 1, none⟩ = some (.int .u64 0) ∧ wr.frozen? ⟨w.heap.size + 1, 0, none⟩ = false ∧ wr.frozen? ⟨w.heap.size + 1, 1, none⟩ = false ∧
      Tab wr w.heap.size d ∧ w.heap.size + 3 ≤ wr.heap.size ∧ Below w.heap.size w wr) (fun s5 _ => (intOf s5 + 1).toNat)
  case atStart =>
    refine ⟨0, 3, 0, 0, by omega, by omega, rfl, rfl, rfl, by omega, by simp, by omega, by simp, by simp [go_sem], by simp [go_sem], by simp [go_sem], by simp [go_sem], by simp [go_sem], by simp [go_sem], by simp [go_sem], by simp [go_sem], ?_, by simp, by go_grown⟩
    exact ((Tab.new w d _).alloc _ (by simp)).alloc _ (by simp; omega)
  case round =>
    obtain ⟨k, i, x, y, hk, hi, rfl, HX, HY, x0, x1, y0, y1, c0, c1, f0, f1, r0, r1, t0, t1, HD, hsz, HB⟩ := hrel
    by_cases hlt : k < 4
    · obtain ⟨m, hm⟩ : ∃ m : Nat, m + k = 3 := ⟨3 - k, by omega⟩
      obtain rfl : i = (m : Int) := by omega
      have p48 : (65536 : Int) ^ k ≤ 65536 ^ 3 := by
        have a : (65536 : Nat) ^ k ≤ 65536 ^ 3 := Nat.pow_le_pow_right (by omega) (by omega)
        have b : ∀ k : Nat, (65536 : Int) ^ k = ((65536 ^ k : Nat) : Int) := fun k => by simp
        rw [b, b]; omega
      have e0 := hd m
      have e4 := hd (4 + m)
      have cm := (HD m (by omega)).1
      have c4 := (HD (4 + m) (by omega)).1
      have m0 : (0 : Int) ≤ (m : Int) := by omega
      have m1 : (m : Int) < 20 := by omega
      have m4 : (4 : Int) + (m : Int) < 20 := by omega
      have yb : y < 281474976710656 := by omega
      have xb : x < 281474976710656 := by omega
      have hiH : Hid ((m : Int) = 3 - (k : Int)) := hi
      have Y1 : Hid (y < 65536 ^ k) := y1
      have X1 : Hid (x < 65536 ^ k) := x1
      clear hi p48 y1 x1
      go_wp2_with (fail)
      go_region
      go_wp2_with (fail)
      go_region
      go_wp2
      go_roundw
      case rel =>
        go_light
        have ex : x * 65536 + d (4 + m) = tp d 4 (k + 1) := by simp only [tp]; rw [← HX.out, show 4 + 3 - k = 4 + m by omega]
        have ey : y * 65536 + d m = tp d 0 (k + 1) := by simp only [tp]; rw [← HY.out, show 0 + 3 - k = m by omega]
        have bx := tp_bd d 4 hd (k + 1)
        have bY := tp_bd d 0 hd (k + 1)
        rw [ex, ey]
        exact ⟨k + 1, (m : Int) - 1, _, _, by omega, by omega, rfl, rfl, rfl, bx.1, bx.2, bY.1, bY.2, by simp [go_sem, c0], by simp [go_sem, c1], by simp [go_sem, f0], by simp [go_sem, f1], by simp [go_sem, r0], by simp [go_sem, r1], by simp [go_sem, t0], by simp [go_sem, t1],
          (((HD.other _ _ (by simp; omega)).other _ _ (by simp; omega)).drew).drew, by simp; omega, (((HB.setCell (by simp; omega) _).setCell (by simp; omega) _).drew).drew⟩
      case measure => simp [intOf]
    · obtain rfl : k = 4 := by omega
      obtain rfl : i = -1 := by omega
      have x2 : x < 18446744073709551616 := by simpa using x1
      have y2 : y < 18446744073709551616 := by simpa using y1
      have E8 : Hid (sv d 8 = x * 18446744073709551616 + y) := by unfold Hid; rw [HX.out, HY.out]; exact sv_eight d
      clear x1 y1 HX HY hi
      go_wp2
      go_loop [6] (fun s6 => ∃ j : Nat, 8 ≤ j ∧ j ≤ 20 ∧ s6 = .int .i64 j ∧ Hid (∀ i, 8 ≤ i → i < j → d i = 0)) (fun s6 => 20 - (intOf s6).toNat)
      case atStart => exact ⟨8, by omega, by omega, rfl, fun i h1 h2 => by omega⟩
      case round =>
        obtain ⟨j, j8, j20, rfl, HZ⟩ := hrel
        by_cases hj : j < 20
        · have cj := (HD j hj).1
          have dj := hd j
          have m0 : (0 : Int) ≤ (j : Int) := by omega
          have m1 : (j : Int) < 20 := by omega
          by_cases hz : d j = 0
          · have hzb : (d j == 0) = true := by simp [hz]
            have HZ2 : Hid (∀ i, 8 ≤ i → i < j + 1 → d i = 0) := fun i h1 h2 => by
              by_cases e : i = j
              · rw [e]; exact hz
              · exact HZ.out i h1 (by omega)
            rw [hz] at cj
            clear hz hzb
            go_wp2
            go_round
            case rel => exact ⟨j + 1, by omega, by omega, by go_num, HZ2⟩
            case measure => simp [intOf]; omega
          · have hzb : (d j == 0) = false := by simp [hz]
            have big : Hid (340282366920938463463374607431768211456 ≤ sv d 20) := sv_big d hd 20 j j8 hj hz
            clear hz
            go_wp2
            refine bodyPost_ret (v := .tuple #[.agg #[.int .u64 0, .int .u64 0], .bool false]) (by simp [results, Tryz.results31, go_sem, r0, r1]) rfl ⟨_, _, Or.inl ⟨rfl, ⟨by omega, by omega, by omega, by omega⟩, Or.inr ⟨rfl, rfl, rfl, big.out⟩, ?_⟩⟩
            go_grown
        · obtain rfl : j = 20 := by omega
          have E20 : Hid (x * 18446744073709551616 + y = sv d 20) := by unfold Hid; rw [sv_zero_up d 20 HZ.out (by omega)]; exact E8.out.symm
          clear HZ HD
          go_wp2
          refine bodyPost_ret (v := .tuple #[.agg #[.int .u64 x, .int .u64 y], .bool true]) (by simp [results, Tryz.results31, go_sem, r0, r1]) rfl ⟨_, _, Or.inr ⟨rfl, ⟨x0, x2, y0, y2⟩, Or.inl ⟨rfl, E20.out⟩, ?_⟩⟩
          go_grown

end Go.Proofs.YtpbgolcimbjekaaGreatDoor
