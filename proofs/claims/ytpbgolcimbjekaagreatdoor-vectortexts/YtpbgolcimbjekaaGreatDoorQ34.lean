/-
  The contract of the document's text of a row of digits at this program: a number's own text. Conditions: digits, rows of at most a thousand.
  The contract of the document's own answer for a suffix at this program. Conditions: the text's length fits the machine.
-/
import Derived.Test.YtpbgolcimbjekaaGreatDoorQ32
import Derived.Test.YtpbgolcimbjekaaGreatDoorQ33
import Derived.BigQuiet
import Derived.Deep.QuietTactic
namespace Go.Proofs.YtpbgolcimbjekaaGreatDoor
open Go.RowKit

/-- The letters of a row of digits, the greatest first. -/
def rv (ds : List Nat) : List UInt8 := (ds.map fun d => UInt8.ofNat (48 + d)).reverse
theorem rv_snoc (ds : List Nat) (d : Nat) : rv (ds ++ [d]) = UInt8.ofNat (48 + d) :: rv ds := by simp [rv]
theorem rv_cons (d : Nat) (ds : List Nat) : rv (d :: ds) = rv ds ++ [UInt8.ofNat (48 + d)] := by simp [rv]
theorem toNat_dig {d : Nat} (h : d < 10) : (UInt8.ofNat (48 + d)).toNat = 48 + d := by
  rw [UInt8.toNat_ofNat']
  omega
theorem rv_val : ∀ ds : List Nat, (∀ d ∈ ds, d < 10) → dval (rv ds) = (val ds : Int) ∧ digs (rv ds)
  | [], _ => ⟨rfl, fun c h => by simp [rv] at h⟩
  | d :: r, h => by
    have d9 := h d (by simp)
    obtain ⟨h1, h2⟩ := rv_val r (fun x hx => h x (by simp [hx]))
    rw [rv_cons, dval_snoc, h1, toNat_dig d9, val]
    refine ⟨by omega, fun c hc => ?_⟩
    rcases List.mem_append.1 hc with hc | hc
    · exact h2 c hc
    · rw [List.mem_singleton.1 hc, toNat_dig d9]; omega
theorem strip {s : ByteArray} (h : 1 < s.size) (h0 : s[0].toNat = 48) (hd : digs s.data.toList) : dval (s.extract 1 s.size).data.toList = dval s.data.toList ∧ digs (s.extract 1 s.size).data.toList := by
  rw [rest_of]
  have D : s.data.toList = s[0] :: s.data.toList.drop 1 := by
    have := drop_at s 0 (by omega)
    simpa using this
  refine ⟨?_, fun c hc => hd c (List.mem_of_mem_drop hc)⟩
  conv => rhs; rw [D]
  simp [dval, h0]
theorem head_of (s : ByteArray) (h : 0 < s.size) : s.data.toList.head? = some s[0] := by
  have hl : s.data.toList.length = s.size := Array.length_toList
  rw [List.head?_eq_getElem?, List.getElem?_eq_getElem (by omega)]
  rfl

set_option maxHeartbeats 1000000 in
set_option maxRecDepth 100000 in
theorem text_num {v : Value} {ds : List Nat} (w : World) (h : Rd w v ds) (hd : ∀ d ∈ ds, d < 10) (hl : ds.length ≤ 1000) :
    Calls Tryz.prog 62 #[v] w fun e w' => ∃ s : ByteArray, e = .returned (.string s) ∧ s.size ≤ 1001 ∧ good s ∧ dval s.data.toList = (val ds : Int) ∧ Below w.heap.size w w' := by
  obtain ⟨a, cap, rfl, h1, h2, h3⟩ := h
  have H3 : Hid (∀ (j d : Nat), ds[j]? = some d → ∃ b off : Nat, a = some ⟨b, off, none⟩ ∧ w.cell? ⟨b, off + j, none⟩ = some (.int .i64 (d : Int)) ∧ b < w.heap.size) := h3
  have HD : Hid (∀ d ∈ ds, d < 10) := hd
  clear h3 hd
  go_enter Tryz.func62, Tryz.ntmps62
  go_wp2
  go_loopw [3, 8] (fun f g wr => ∃ (S : ByteArray) (j : Nat), f = .string S ∧ g = .int .i64 j ∧ j ≤ ds.length ∧ S.size = j ∧ Hid (S.data.toList = rv (ds.take j)) ∧ Below w.heap.size w wr) (fun _ g _ => ds.length - (intOf g).toNat)
  case atStart => exact ⟨⟨#[]⟩, 0, rfl, rfl, by omega, rfl, by unfold Hid; simp [rv], by go_grown⟩
  case round =>
    obtain ⟨S, j, rfl, rfl, jl, sj, HS, HB⟩ := hrel
    have hsB := HB.size
    by_cases cj : j < ds.length
    · obtain ⟨d, hdj⟩ : ∃ d, ds[j]? = some d := ⟨ds[j], List.getElem?_eq_getElem cj⟩
      obtain ⟨b, off, rfl, cell, bw⟩ := H3.out j d hdj
      have cw : wr.cell? ⟨b, off + j, none⟩ = some (.int .i64 (d : Int)) := (HB.cell (by exact bw)).trans cell
      have d9 : d < 10 := HD.out d (List.mem_of_getElem? hdj)
      have T : Hid ((⟨#[48 + UInt8.ofNat d]⟩ ++ S : ByteArray).data.toList = rv (ds.take (j + 1))) := by
        unfold Hid
        rw [List.take_succ_eq_append_getElem cj, show ds[j] = d from (List.getElem?_eq_some_iff.1 hdj).2, rv_snoc, ← HS.out]
        simp
      have hcv := conv_one (wr.alloc (.cells #[.int .u8 (48 + (d : Int))] 5)) wr.heap.size (48 + (d : Int)) (by simp [go_sem])
      have j0 : (0 : Int) ≤ (j : Int) := by omega
      have j1 : (j : Int) < (ds.length : Int) := by omega
      clear HS cell hdj
      go_wp2
      go_roundw
      case rel => exact ⟨_, j + 1, rfl, by go_num, by omega, by rw [ByteArray.size_append, sj]; show 1 + j = j + 1; omega, T, by go_grown⟩
      case measure => simp [intOf]; omega
    · obtain rfl : j = ds.length := by omega
      have E := HS.out
      rw [List.take_length] at E
      obtain ⟨v1, v2⟩ := rv_val ds HD.out
      rw [← E] at v1 v2
      have V1 : Hid (dval S.data.toList = (val ds : Int) ∧ digs S.data.toList) := ⟨v1, v2⟩
      have S1 : Hid (S.size = 0 → val ds = 0) := by
        intro hz
        have : ds = [] := List.length_eq_zero_iff.1 (by omega)
        rw [this]; rfl
      clear E v1 v2 HS
      go_wp2
      go_loopw [3] (fun f wr => ∃ S : ByteArray, f = .string S ∧ S.size ≤ 1000 ∧ Hid (dval S.data.toList = (val ds : Int) ∧ digs S.data.toList) ∧ Hid (S.size = 0 → val ds = 0) ∧ Below w.heap.size w wr) (fun f _ => lenOf f)
      case atStart => exact ⟨S, rfl, by omega, V1, S1, HB⟩
      case round =>
        clear V1 S1 HB hsB
        obtain ⟨S, rfl, sl, V1, S1, HB⟩ := hrel
        have hsB := HB.size
        by_cases c1 : 1 < S.size
        · have b8 : S[0].toNat < 256 := S[0].toNat_lt
          by_cases c2 : S[0].toNat = 48
          · have e0 : (((S[0].toNat : Nat) : Int) == 48) = true := by simp [c2]
            obtain ⟨s1, s2⟩ := strip c1 c2 V1.out.2
            have V2 : Hid (dval (S.extract 1 S.size).data.toList = (val ds : Int) ∧ digs (S.extract 1 S.size).data.toList) := ⟨by rw [s1]; exact V1.out.1, s2⟩
            clear s1 s2 c2 V1
            go_wp2
            go_roundw
            case rel => exact ⟨_, rfl, by simp; omega, V2, by intro hz; simp at hz; omega, HB⟩
            case measure => show (S.extract 1 S.size).size < S.size; simp; omega
          · have e0 : (((S[0].toNat : Nat) : Int) == 48) = false := by simp; omega
            have ne := not_empty S (by omega)
            have G : Hid (good S) := ⟨V1.out.2, by omega, fun _ => by rw [head_of S (by omega)]; simpa using c2⟩
            clear c2
            go_wp2
            go_ret
            exact ⟨S, rfl, by omega, G.out, V1.out.1, HB⟩
        · by_cases cz : S.size = 0
          · have e : S.toList.isEmpty = true := by rw [empty_iff]; exact decide_eq_true (by apply List.length_eq_zero_iff.1; simpa using cz)
            have e1 : S.toList = [] := by simpa using e
            have v0 := S1.out cz
            have V0 : Hid (val ds = 0) := v0
            clear v0 V1 S1
            go_wp2
            go_ret
            exact ⟨_, rfl, by decide, ⟨fun c hc => by simp at hc; subst hc; decide, by decide, fun h => absurd h (by decide)⟩, by rw [V0.out]; decide, HB⟩
          · have ne := not_empty S (by omega)
            have G : Hid (good S) := ⟨V1.out.2, by omega, fun h => absurd h c1⟩
            go_wp2
            go_ret
            exact ⟨S, rfl, by omega, G.out, V1.out.1, HB⟩

end Go.Proofs.YtpbgolcimbjekaaGreatDoor

namespace Go.Proofs.YtpbgolcimbjekaaGreatDoor
open Go.RowKit

set_option maxHeartbeats 1000000 in
theorem digit_any (c : UInt8) (w : World) :
    Calls Tryz.prog 58 #[.int .u8 (c.toNat : Int)] w fun e w' => e = .returned (.bool (isD c)) ∧ w = w' := by
  have b8 : c.toNat < 256 := c.toNat_lt
  by_cases h0 : 48 ≤ c.toNat
  · rw [show isD c = decide ((c.toNat : Int) ≤ 57) by unfold isD; rw [decide_eq_decide]; omega]
    go_enter Tryz.func58, Tryz.ntmps58
    go_wp2
    go_ret
    exact ⟨rfl, rfl⟩
  · rw [show isD c = false by unfold isD; simp [h0]]
    go_enter Tryz.func58, Tryz.ntmps58
    go_wp2
    go_ret
    exact ⟨rfl, rfl⟩

set_option maxHeartbeats 1000000 in
theorem scale_d0 (w : World) : Calls Tryz.prog 60 #[.string ⟨#[110]⟩] w fun e w' => e = .returned (.tuple #[.int .i64 (-9), .int .i64 0, .bool true]) ∧ w = w' := by
  go_enter Tryz.func60, Tryz.ntmps60
  go_wp2
  go_ret3
  exact ⟨rfl, rfl⟩
set_option maxHeartbeats 1000000 in
theorem scale_d1 (w : World) : Calls Tryz.prog 60 #[.string ⟨#[117]⟩] w fun e w' => e = .returned (.tuple #[.int .i64 (-6), .int .i64 0, .bool true]) ∧ w = w' := by
  go_enter Tryz.func60, Tryz.ntmps60
  go_wp2
  go_ret3
  exact ⟨rfl, rfl⟩
set_option maxHeartbeats 1000000 in
theorem scale_d2 (w : World) : Calls Tryz.prog 60 #[.string ⟨#[109]⟩] w fun e w' => e = .returned (.tuple #[.int .i64 (-3), .int .i64 0, .bool true]) ∧ w = w' := by
  go_enter Tryz.func60, Tryz.ntmps60
  go_wp2
  go_ret3
  exact ⟨rfl, rfl⟩
set_option maxHeartbeats 1000000 in
theorem scale_d3 (w : World) : Calls Tryz.prog 60 #[.string ⟨#[]⟩] w fun e w' => e = .returned (.tuple #[.int .i64 (0), .int .i64 0, .bool true]) ∧ w = w' := by
  go_enter Tryz.func60, Tryz.ntmps60
  go_wp2
  go_ret3
  exact ⟨rfl, rfl⟩
set_option maxHeartbeats 1000000 in
theorem scale_d4 (w : World) : Calls Tryz.prog 60 #[.string ⟨#[107]⟩] w fun e w' => e = .returned (.tuple #[.int .i64 (3), .int .i64 0, .bool true]) ∧ w = w' := by
  go_enter Tryz.func60, Tryz.ntmps60
  go_wp2
  go_ret3
  exact ⟨rfl, rfl⟩
set_option maxHeartbeats 1000000 in
theorem scale_d5 (w : World) : Calls Tryz.prog 60 #[.string ⟨#[77]⟩] w fun e w' => e = .returned (.tuple #[.int .i64 (6), .int .i64 0, .bool true]) ∧ w = w' := by
  go_enter Tryz.func60, Tryz.ntmps60
  go_wp2
  go_ret3
  exact ⟨rfl, rfl⟩
set_option maxHeartbeats 1000000 in
theorem scale_d6 (w : World) : Calls Tryz.prog 60 #[.string ⟨#[71]⟩] w fun e w' => e = .returned (.tuple #[.int .i64 (9), .int .i64 0, .bool true]) ∧ w = w' := by
  go_enter Tryz.func60, Tryz.ntmps60
  go_wp2
  go_ret3
  exact ⟨rfl, rfl⟩
set_option maxHeartbeats 1000000 in
theorem scale_d7 (w : World) : Calls Tryz.prog 60 #[.string ⟨#[84]⟩] w fun e w' => e = .returned (.tuple #[.int .i64 (12), .int .i64 0, .bool true]) ∧ w = w' := by
  go_enter Tryz.func60, Tryz.ntmps60
  go_wp2
  go_ret3
  exact ⟨rfl, rfl⟩
set_option maxHeartbeats 1000000 in
theorem scale_d8 (w : World) : Calls Tryz.prog 60 #[.string ⟨#[80]⟩] w fun e w' => e = .returned (.tuple #[.int .i64 (15), .int .i64 0, .bool true]) ∧ w = w' := by
  go_enter Tryz.func60, Tryz.ntmps60
  go_wp2
  go_ret3
  exact ⟨rfl, rfl⟩
set_option maxHeartbeats 1000000 in
theorem scale_d9 (w : World) : Calls Tryz.prog 60 #[.string ⟨#[69]⟩] w fun e w' => e = .returned (.tuple #[.int .i64 (18), .int .i64 0, .bool true]) ∧ w = w' := by
  go_enter Tryz.func60, Tryz.ntmps60
  go_wp2
  go_ret3
  exact ⟨rfl, rfl⟩
set_option maxHeartbeats 1000000 in
theorem scale_b0 (w : World) : Calls Tryz.prog 60 #[.string ⟨#[75, 105]⟩] w fun e w' => e = .returned (.tuple #[.int .i64 0, .int .i64 10, .bool true]) ∧ w = w' := by
  go_enter Tryz.func60, Tryz.ntmps60
  go_wp2
  go_ret3
  exact ⟨rfl, rfl⟩
set_option maxHeartbeats 1000000 in
theorem scale_b1 (w : World) : Calls Tryz.prog 60 #[.string ⟨#[77, 105]⟩] w fun e w' => e = .returned (.tuple #[.int .i64 0, .int .i64 20, .bool true]) ∧ w = w' := by
  go_enter Tryz.func60, Tryz.ntmps60
  go_wp2
  go_ret3
  exact ⟨rfl, rfl⟩
set_option maxHeartbeats 1000000 in
theorem scale_b2 (w : World) : Calls Tryz.prog 60 #[.string ⟨#[71, 105]⟩] w fun e w' => e = .returned (.tuple #[.int .i64 0, .int .i64 30, .bool true]) ∧ w = w' := by
  go_enter Tryz.func60, Tryz.ntmps60
  go_wp2
  go_ret3
  exact ⟨rfl, rfl⟩
set_option maxHeartbeats 1000000 in
theorem scale_b3 (w : World) : Calls Tryz.prog 60 #[.string ⟨#[84, 105]⟩] w fun e w' => e = .returned (.tuple #[.int .i64 0, .int .i64 40, .bool true]) ∧ w = w' := by
  go_enter Tryz.func60, Tryz.ntmps60
  go_wp2
  go_ret3
  exact ⟨rfl, rfl⟩
set_option maxHeartbeats 1000000 in
theorem scale_b4 (w : World) : Calls Tryz.prog 60 #[.string ⟨#[80, 105]⟩] w fun e w' => e = .returned (.tuple #[.int .i64 0, .int .i64 50, .bool true]) ∧ w = w' := by
  go_enter Tryz.func60, Tryz.ntmps60
  go_wp2
  go_ret3
  exact ⟨rfl, rfl⟩
set_option maxHeartbeats 1000000 in
theorem scale_b5 (w : World) : Calls Tryz.prog 60 #[.string ⟨#[69, 105]⟩] w fun e w' => e = .returned (.tuple #[.int .i64 0, .int .i64 60, .bool true]) ∧ w = w' := by
  go_enter Tryz.func60, Tryz.ntmps60
  go_wp2
  go_ret3
  exact ⟨rfl, rfl⟩

/-- What a suffix answers: powers of ten, of two. -/
def Scal (l : List UInt8) (e : Ending) : Prop := ∃ (te tw : Int) (o : Bool), e = .returned (.tuple #[.int .i64 te, .int .i64 tw, .bool o]) ∧
  ((pow l = none ∧ o = false) ∨ (∃ (t : Nat) (n : Int), pow l = some (t, n) ∧ o = true ∧ tw = (t : Int) ∧ te = n))
theorem pow_expo {l : List UInt8} (h1 : place decs l = none) (h2 : place bins l = none) : pow l = (expo l).map fun n => (0, n) := by
  unfold pow
  rw [h1, h2]
theorem two_one {d : ByteArray} (h : d.size = 1) : two d.data.toList = if isD d[0] = true then some (d[0].toNat - 48) else none := by
  have e : d.data.toList = [d[0]] := by
    have h1 := drop_at d 0 (by omega)
    have h2 := drop_end d 1 (by omega)
    rw [List.drop_zero, Nat.zero_add, h2] at h1
    exact h1
  rw [e]
  unfold two
  by_cases c : isD d[0] = true
  · rw [if_pos c, if_pos ⟨by simp, by simp, fun x hx => by rw [List.mem_singleton.1 hx]; exact c⟩]
    simp [dig]
  · rw [if_neg c, if_neg (fun k => c (k.2.2 _ (by simp)))]
theorem two_two {d : ByteArray} (h : d.size = 2) : two d.data.toList = if isD d[0] = true ∧ isD d[1] = true then some (10 * (d[0].toNat - 48) + (d[1].toNat - 48)) else none := by
  have e : d.data.toList = [d[0], d[1]] := by
    have h1 := drop_at d 0 (by omega)
    have h2 := drop_at d 1 (by omega)
    have h3 := drop_end d 2 (by omega)
    rw [List.drop_zero, Nat.zero_add, h2, h3] at h1
    exact h1
  rw [e]
  unfold two
  by_cases c : isD d[0] = true ∧ isD d[1] = true
  · rw [if_pos c, if_pos ⟨by simp, by simp, fun x hx => by
      rcases List.mem_cons.1 hx with rfl | hx
      · exact c.1
      · rw [List.mem_singleton.1 hx]; exact c.2⟩]
    simp [dig]; omega
  · rw [if_neg c, if_neg (fun k => c ⟨k.2.2 _ (by simp), k.2.2 _ (by simp)⟩)]
theorem drop_cons (t : ByteArray) (h : 0 < t.size) : t.data.toList = t[0] :: t.data.toList.drop 1 := by
  have := drop_at t 0 h
  simpa using this
theorem byte_eq {c : UInt8} {k : Nat} (hk : k < 256) : c = UInt8.ofNat k ↔ c.toNat = k := by
  constructor
  · rintro rfl; rw [UInt8.toNat_ofNat']; omega
  · intro h; apply UInt8.toNat_inj.1; rw [UInt8.toNat_ofNat']; omega

set_option maxHeartbeats 2000000 in
set_option maxRecDepth 100000 in
theorem scale_expo (s : ByteArray) (hm : s.size ≤ 1000) (hz : 0 < s.size) (w : World) (np : ∀ l ∈ decs ++ bins, ¬ s.data.toList = l) (hp : pow s.data.toList = (expo s.data.toList).map fun n => (0, n)) :
    Calls Tryz.prog 60 #[.string s] w fun e w' => Scal s.data.toList e ∧ Below w.heap.size w w' := by
  have HP : Hid _ := hp
  clear hp
  have nq : ∀ l ∈ decs ++ bins, (s.toList == l) = false := fun l hl => by
    rw [ByteArray.toList_eq]
    simpa using np l hl
  have q0 : (s.toList == [110]) = false := nq _ (by simp [decs, bins])
  have q1 : (s.toList == [117]) = false := nq _ (by simp [decs, bins])
  have q2 : (s.toList == [109]) = false := nq _ (by simp [decs, bins])
  have q3 := not_empty s hz
  have q4 : (s.toList == [107]) = false := nq _ (by simp [decs, bins])
  have q5 : (s.toList == [77]) = false := nq _ (by simp [decs, bins])
  have q6 : (s.toList == [71]) = false := nq _ (by simp [decs, bins])
  have q7 : (s.toList == [84]) = false := nq _ (by simp [decs, bins])
  have q8 : (s.toList == [80]) = false := nq _ (by simp [decs, bins])
  have q9 : (s.toList == [69]) = false := nq _ (by simp [decs, bins])
  have q10 : (s.toList == [75, 105]) = false := nq _ (by simp [decs, bins])
  have q11 : (s.toList == [77, 105]) = false := nq _ (by simp [decs, bins])
  have q12 : (s.toList == [71, 105]) = false := nq _ (by simp [decs, bins])
  have q13 : (s.toList == [84, 105]) = false := nq _ (by simp [decs, bins])
  have q14 : (s.toList == [80, 105]) = false := nq _ (by simp [decs, bins])
  have q15 : (s.toList == [69, 105]) = false := nq _ (by simp [decs, bins])
  have b8 : s[0].toNat < 256 := s[0].toNat_lt
  clear np nq
  by_cases c : s[0].toNat ≠ 101 ∧ s[0].toNat ≠ 69
  · have E : Hid (pow s.data.toList = none) := by
      unfold Hid
      rw [HP.out, drop_cons s hz, expo, if_pos c]; rfl
    have c1 : (((s[0].toNat : Nat) : Int) != 69) = true := by simp; omega
    have c2 : (((s[0].toNat : Nat) : Int) != 101) = true := by simp; omega
    clear c HP
    go_enter Tryz.func60, Tryz.ntmps60
    go_wp2
    go_ret3
    exact ⟨⟨_, _, _, rfl, Or.inl ⟨E.out, rfl⟩⟩, Below.refl _ _⟩
  · have E : Hid (pow s.data.toList = (two (sgn (s.data.toList.drop 1)).2).map fun (n : Nat) => ((0 : Nat), if (sgn (s.data.toList.drop 1)).1 = true then -(n : Int) else (n : Int))) := by
      unfold Hid
      rw [HP.out, expo_split s hz c]
      cases two (sgn (s.data.toList.drop 1)).2 <;> rfl
    clear HP
    have cc : s[0].toNat = 69 ∨ (s[0].toNat ≠ 69 ∧ s[0].toNat = 101) := by omega
    clear c
    go_enter Tryz.func60, Tryz.ntmps60
    go_upto_region 34 with (fail)
    go_cut [46] (fun f wc => f = .bool false ∧ w = wc)
    case first =>
      rcases cc with cc | ⟨c1, cc⟩
      · have c2 : (((s[0].toNat : Nat) : Int) != 69) = false := by simp; omega
        go_wp2_with (fail)
        go_meet
        case rel => exact ⟨rfl, rfl⟩
      · have c2 : (((s[0].toNat : Nat) : Int) != 69) = true := by simp; omega
        have c3 : (((s[0].toNat : Nat) : Int) != 101) = false := by simp; omega
        go_wp2_with (fail)
        go_meet
        case rel => exact ⟨rfl, rfl⟩
    case rest =>
      obtain ⟨rfl, rfl⟩ := hcut
      clear cc b8
      clear q0 q1 q2 q3 q4 q5 q6 q7 q8 q9 q10 q11 q12 q13 q14 q15
      go_upto_region 36 with (fail)
      go_cut [0] (fun f wc => ∃ t : ByteArray, f = .string t ∧ t.size ≤ 1000 ∧ Hid (t.data.toList = s.data.toList.drop 1) ∧ w = wc)
      case first =>
        have s1 : (1 : Int) ≤ (s.size : Int) := by omega
        go_wp2_with (fail)
        go_meet
        case rel => exact ⟨s.extract 1 s.size, rfl, by simp; omega, rest_of s, rfl⟩
      case rest =>
        obtain ⟨t, rfl, tl, HT, rfl⟩ := hcut
        rw [← HT.out] at E
        clear HT
        go_upto_region 38 with (fail)
        go_cut [60] (fun f wc => f = .bool (decide (t.data.toList.head? = some 43 ∨ t.data.toList.head? = some 45)) ∧ w = wc)
        case first =>
          by_cases tz : t.size = 0
          · have te : t.toList.isEmpty = true := by rw [empty_iff]; exact decide_eq_true (by apply List.length_eq_zero_iff.1; simpa using tz)
            have te1 : t.toList = [] := by simpa using te
            have DD : Hid (false = decide (t.data.toList.head? = some 43 ∨ t.data.toList.head? = some 45)) := by
              unfold Hid; rw [← ByteArray.toList_eq, te1]; rfl
            go_wp2_with (fail)
            go_meet
            case rel => exact ⟨congrArg Value.bool DD.out, rfl⟩
          · have te := not_empty t (by omega)
            have te1 : ¬ t.toList = [] := by simpa using te
            have t0 : 0 < t.size := by omega
            have b8 : t[0].toNat < 256 := t[0].toNat_lt
            have HH : Hid (decide (t.data.toList.head? = some 43 ∨ t.data.toList.head? = some 45) = decide (t[0].toNat = 43 ∨ t[0].toNat = 45)) := by
              unfold Hid
              rw [head_of t t0, decide_eq_decide, Option.some.injEq, Option.some.injEq, ← byte_eq (k := 43) (by omega), ← byte_eq (k := 45) (by omega)]
              rfl
            by_cases c1 : t[0].toNat = 43
            · have e1 : (((t[0].toNat : Nat) : Int) == 43) = true := by simp [c1]
              have DD : Hid (true = decide (t.data.toList.head? = some 43 ∨ t.data.toList.head? = some 45)) := by
                unfold Hid; rw [HH.out]; exact (decide_eq_true (Or.inl c1)).symm
              clear HH c1
              go_wp2_with (fail)
              go_meet
              case rel => exact ⟨congrArg Value.bool DD.out, rfl⟩
            · have e1 : (((t[0].toNat : Nat) : Int) == 43) = false := by simp; omega
              by_cases c2 : t[0].toNat = 45
              · have e2 : (((t[0].toNat : Nat) : Int) == 45) = true := by simp [c2]
                have DD : Hid (true = decide (t.data.toList.head? = some 43 ∨ t.data.toList.head? = some 45)) := by
                  unfold Hid; rw [HH.out]; exact (decide_eq_true (Or.inr c2)).symm
                clear HH c1 c2
                go_wp2_with (fail)
                go_meet
                case rel => exact ⟨congrArg Value.bool DD.out, rfl⟩
              · have e2 : (((t[0].toNat : Nat) : Int) == 45) = false := by simp; omega
                have DD : Hid (false = decide (t.data.toList.head? = some 43 ∨ t.data.toList.head? = some 45)) := by
                  unfold Hid; rw [HH.out]; exact (decide_eq_false (by omega)).symm
                clear HH c1 c2
                go_wp2_with (fail)
                go_meet
                case rel => exact ⟨congrArg Value.bool DD.out, rfl⟩
        case rest =>
          obtain ⟨rfl, rfl⟩ := hcut
          go_upto_if 60 with (fail)
          go_cut [0, 5] (fun f g wc => ∃ (d : ByteArray) (ng : Bool), f = .string d ∧ g = .int .i64 (bif ng then -1 else 1) ∧ d.size ≤ 1000 ∧ Hid (sgn t.data.toList = (ng, d.data.toList)) ∧ w = wc)
          case first =>
            by_cases c : t.data.toList.head? = some 43 ∨ t.data.toList.head? = some 45
            · rw [decide_eq_true c]
              have tz : 0 < t.size := by
                have h0 : ¬ t.data.toList = [] := fun h => by rw [h] at c; simp at c
                have h1 := List.length_pos_iff.2 h0
                simpa using h1
              have b8 : t[0].toNat < 256 := t[0].toNat_lt
              rw [head_of t tz] at c
              have t1 : (1 : Int) ≤ (t.size : Int) := by omega
              by_cases c2 : t[0].toNat = 45
              · have e2 : (((t[0].toNat : Nat) : Int) == 45) = true := by simp [c2]
                have G : Hid (sgn t.data.toList = (true, (t.extract 1 t.size).data.toList)) := by
                  unfold Hid
                  rw [rest_of, drop_cons t tz, sgn, if_pos (show t[0] = 45 from (byte_eq (k := 45) (by omega)).2 c2)]
                  simp
                clear c c2
                go_wp2_with (fail)
                go_meet
                case rel => exact ⟨_, true, rfl, rfl, by simp; omega, G, rfl⟩
              · have e2 : (((t[0].toNat : Nat) : Int) == 45) = false := by simp; omega
                have c3 : t[0] = 43 := by
                  rcases c with c | c
                  · injection c
                  · injection c with c; exact absurd (by rw [c]; rfl) c2
                have G : Hid (sgn t.data.toList = (false, (t.extract 1 t.size).data.toList)) := by
                  unfold Hid
                  rw [rest_of, drop_cons t tz, sgn, if_neg (by rw [c3]; decide), if_pos c3]
                  simp
                clear c c2 c3
                go_wp2_with (fail)
                go_meet
                case rel => exact ⟨_, false, rfl, rfl, by simp; omega, G, rfl⟩
            · rw [decide_eq_false c]
              have G : Hid (sgn t.data.toList = (false, t.data.toList)) := by
                unfold Hid
                cases hh : t.data.toList with
                | nil => rfl
                | cons x r =>
                  rw [hh] at c
                  simp at c
                  rw [sgn, if_neg c.2, if_neg c.1]
              clear c
              go_wp2_with (fail)
              go_meet
              case rel => exact ⟨t, false, rfl, rfl, tl, G, rfl⟩
          case rest =>
            obtain ⟨d, ng, rfl, rfl, dl, G, rfl⟩ := hcut
            have E1 := E.out
            rw [G.out] at E1
            have E2 : Hid (pow s.data.toList = (two d.data.toList).map fun (n : Nat) => ((0 : Nat), if ng = true then -(n : Int) else (n : Int))) := E1
            clear E E1 G
            by_cases d1 : d.size = 1
            · have b8 : d[0].toNat < 256 := d[0].toNat_lt
              have TT := two_one d1
              have z1 : ((d.size : Int) == 1) = true := by simp [d1]
              have ID : Hid (∀ w, Calls Tryz.prog 58 #[.int .u8 (d[0].toNat : Int)] w fun e w' => e = .returned (.bool (isD d[0])) ∧ w = w') := fun w => digit_any d[0] w
              have dp : (0 : Int) < (d.size : Int) := by omega
              cases hx : isD d[0]
              · rw [hx] at ID TT
                have X : Hid (pow s.data.toList = none) := by unfold Hid; rw [E2.out, TT]; rfl
                have z2 : ((d.size : Int) == 2) = false := by simp; omega
                clear hx TT E2
                go_wp2_with (fail)
                refine (ID.out _).mono ?_
                rintro e w1 ⟨rfl, rfl⟩
                go_wp2
                go_ret3
                exact ⟨⟨_, _, _, rfl, Or.inl ⟨X.out, rfl⟩⟩, Below.refl _ _⟩
              · obtain ⟨x0, x1⟩ := isD_at hx
                rw [hx] at ID TT
                have X : Hid (pow s.data.toList = some (0, if ng = true then -((d[0].toNat - 48 : Nat) : Int) else ((d[0].toNat - 48 : Nat) : Int))) := by unfold Hid; rw [E2.out, TT]; rfl
                clear hx TT E2
                cases ng
                all_goals
                  go_wp2_with (fail)
                  refine (ID.out _).mono ?_
                  rintro e w1 ⟨rfl, rfl⟩
                  go_wp2
                  go_ret3
                  exact ⟨⟨_, _, _, rfl, Or.inr ⟨_, _, X.out, rfl, rfl, by go_light; simp; omega⟩⟩, by first | exact Below.refl _ _ | exact below_drewN (Below.refl _ _) _⟩
            · have z1 : ((d.size : Int) == 1) = false := by simp; omega
              by_cases d2 : d.size = 2
              · have b0 : d[0].toNat < 256 := d[0].toNat_lt
                have b1 : d[1].toNat < 256 := d[1].toNat_lt
                have TT := two_two d2
                have z2 : ((d.size : Int) == 2) = true := by simp [d2]
                have I0 : Hid (∀ w, Calls Tryz.prog 58 #[.int .u8 (d[0].toNat : Int)] w fun e w' => e = .returned (.bool (isD d[0])) ∧ w = w') := fun w => digit_any d[0] w
                have I1 : Hid (∀ w, Calls Tryz.prog 58 #[.int .u8 (d[1].toNat : Int)] w fun e w' => e = .returned (.bool (isD d[1])) ∧ w = w') := fun w => digit_any d[1] w
                have dp : (0 : Int) < (d.size : Int) := by omega
                have dq : (1 : Int) < (d.size : Int) := by omega
                cases h0 : isD d[0]
                · rw [h0] at I0 TT
                  have X : Hid (pow s.data.toList = none) := by unfold Hid; rw [E2.out, TT]; rfl
                  clear h0 TT E2
                  go_wp2_with (fail)
                  refine (I0.out _).mono ?_
                  rintro e w1 ⟨rfl, rfl⟩
                  go_wp2
                  go_ret3
                  exact ⟨⟨_, _, _, rfl, Or.inl ⟨X.out, rfl⟩⟩, Below.refl _ _⟩
                · cases h1 : isD d[1]
                  · rw [h0] at I0
                    rw [h1] at I1
                    have X : Hid (pow s.data.toList = none) := by unfold Hid; rw [E2.out, TT, h1]; simp
                    clear h0 h1 TT E2
                    go_wp2_with (fail)
                    refine (I0.out _).mono ?_
                    rintro e w1 ⟨rfl, rfl⟩
                    go_wp2_with (fail)
                    refine (I1.out _).mono ?_
                    rintro e w1 ⟨rfl, rfl⟩
                    go_wp2
                    go_ret3
                    exact ⟨⟨_, _, _, rfl, Or.inl ⟨X.out, rfl⟩⟩, Below.refl _ _⟩
                  · obtain ⟨x0, x1⟩ := isD_at h0
                    obtain ⟨y0, y1⟩ := isD_at h1
                    have X : Hid (pow s.data.toList = some (0, if ng = true then -((10 * (d[0].toNat - 48) + (d[1].toNat - 48) : Nat) : Int) else ((10 * (d[0].toNat - 48) + (d[1].toNat - 48) : Nat) : Int))) := by
                      unfold Hid; rw [E2.out, TT, if_pos ⟨h0, h1⟩]; rfl
                    rw [h0] at I0
                    rw [h1] at I1
                    clear h0 h1 TT E2
                    cases ng
                    all_goals
                      go_wp2_with (fail)
                      refine (I0.out _).mono ?_
                      rintro e w1 ⟨rfl, rfl⟩
                      go_wp2_with (fail)
                      refine (I1.out _).mono ?_
                      rintro e w1 ⟨rfl, rfl⟩
                      go_wp2_with (fail)
                      go_quiet (fail)
                      go_wp2
                      go_ret3
                      exact ⟨⟨_, _, _, rfl, Or.inr ⟨_, _, X.out, rfl, rfl, by go_light; simp; omega⟩⟩, by first | exact Below.refl _ _ | exact below_drewN (Below.refl _ _) _⟩
              · have z2 : ((d.size : Int) == 2) = false := by simp; omega
                have X : Hid (pow s.data.toList = none) := by unfold Hid; rw [E2.out, two_no _ (by simp; omega)]; rfl
                clear E2
                go_wp2
                go_ret3
                exact ⟨⟨_, _, _, rfl, Or.inl ⟨X.out, rfl⟩⟩, Below.refl _ _⟩

theorem place_some : ∀ (L : List (List UInt8)) (l : List UInt8) (i : Nat), place L l = some i → l = L.getD i []
  | [], _, _, h => by simp [place] at h
  | x :: r, l, i, h => by
    rw [place] at h
    split at h
    · simp at h; subst h; simpa using by assumption
    · cases k : place r l with
      | none => simp [k] at h
      | some j =>
        simp [k] at h
        subst h
        simpa using place_some r l j k
theorem place_none : ∀ (L : List (List UInt8)) (l : List UInt8), place L l = none → ∀ x ∈ L, ¬ l = x
  | [], _, _, x, hx => by simp at hx
  | y :: r, l, h, x, hx => by
    rw [place] at h
    split at h
    · simp at h
    · rename_i ne
      rcases List.mem_cons.1 hx with rfl | hx
      · exact ne
      · exact place_none r l (by simpa using h) x hx
theorem scal_of {l : List UInt8} {w : World} {s : ByteArray} {te tw : Int} {t : Nat} (hs : s.data.toList = l) (hp : pow l = some (t, te)) (ht : tw = (t : Int))
    (h : Calls Tryz.prog 60 #[.string (ba l)] w fun e w' => e = .returned (.tuple #[.int .i64 te, .int .i64 tw, .bool true]) ∧ w = w') :
    Calls Tryz.prog 60 #[.string s] w fun e w' => Scal s.data.toList e ∧ Below w.heap.size w w' := by
  have e : s = ba l := by rw [ba_eq hs]; rfl
  rw [hs, e]
  refine h.mono ?_
  rintro e w' ⟨rfl, rfl⟩
  exact ⟨⟨_, _, _, rfl, Or.inr ⟨t, te, hp, rfl, ht, rfl⟩⟩, Below.refl _ _⟩
theorem scale_is (s : ByteArray) (hm : s.size ≤ 1000) (w : World) :
    Calls Tryz.prog 60 #[.string s] w fun e w' => Scal s.data.toList e ∧ Below w.heap.size w w' := by
  cases hd : place decs s.data.toList with
  | some i =>
    have hi := place_lt _ _ _ hd
    have hs := place_some _ _ _ hd
    match i, hi, hs with
    | 0, _, hs => exact scal_of (t := 0) hs (by decide +kernel) rfl (scale_d0 w)
    | 1, _, hs => exact scal_of (t := 0) hs (by decide +kernel) rfl (scale_d1 w)
    | 2, _, hs => exact scal_of (t := 0) hs (by decide +kernel) rfl (scale_d2 w)
    | 3, _, hs => exact scal_of (t := 0) hs (by decide +kernel) rfl (scale_d3 w)
    | 4, _, hs => exact scal_of (t := 0) hs (by decide +kernel) rfl (scale_d4 w)
    | 5, _, hs => exact scal_of (t := 0) hs (by decide +kernel) rfl (scale_d5 w)
    | 6, _, hs => exact scal_of (t := 0) hs (by decide +kernel) rfl (scale_d6 w)
    | 7, _, hs => exact scal_of (t := 0) hs (by decide +kernel) rfl (scale_d7 w)
    | 8, _, hs => exact scal_of (t := 0) hs (by decide +kernel) rfl (scale_d8 w)
    | 9, _, hs => exact scal_of (t := 0) hs (by decide +kernel) rfl (scale_d9 w)
  | none =>
    cases hb : place bins s.data.toList with
    | some i =>
      have hi := place_lt _ _ _ hb
      have hs := place_some _ _ _ hb
      match i, hi, hs with
      | 0, _, hs => exact scal_of (t := 10) hs (by decide +kernel) rfl (scale_b0 w)
      | 1, _, hs => exact scal_of (t := 20) hs (by decide +kernel) rfl (scale_b1 w)
      | 2, _, hs => exact scal_of (t := 30) hs (by decide +kernel) rfl (scale_b2 w)
      | 3, _, hs => exact scal_of (t := 40) hs (by decide +kernel) rfl (scale_b3 w)
      | 4, _, hs => exact scal_of (t := 50) hs (by decide +kernel) rfl (scale_b4 w)
      | 5, _, hs => exact scal_of (t := 60) hs (by decide +kernel) rfl (scale_b5 w)
    | none =>
      have np : ∀ l ∈ decs ++ bins, ¬ s.data.toList = l := fun l hl => by
        rcases List.mem_append.1 hl with hl | hl
        · exact place_none _ _ hd l hl
        · exact place_none _ _ hb l hl
      have hz : 0 < s.size := by
        have h0 : ¬ s.data.toList = [] := np [] (by simp [decs])
        have h1 := List.length_pos_iff.2 h0
        simpa using h1
      exact scale_expo s hm hz w np (pow_expo hd hb)

end Go.Proofs.YtpbgolcimbjekaaGreatDoor
