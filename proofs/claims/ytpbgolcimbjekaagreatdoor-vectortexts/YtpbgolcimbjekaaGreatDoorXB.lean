/-
  The contract of the document's text of a row of digits at this program: a number's own text. Conditions: digits, rows of at most a thousand.
-/
import Derived.Test.YtpbgolcimbjekaaGreatDoorXA
import Derived.Test.YtpbgolcimbjekaaGreatDoorTB
namespace Go.Proofs.YtpbgolcimbjekaaGreatDoor
open Go.RowKit

/-- The letters of a row of digits, the greatest first. -/
def rv (ds : List Nat) : List UInt8 := (ds.map fun d => UInt8.ofNat (48 + d)).reverse
theorem rv_snoc (ds : List Nat) (d : Nat) : rv (ds ++ [d]) = UInt8.ofNat (48 + d) :: rv ds := by simp [rv]
theorem rv_cons (d : Nat) (ds : List Nat) : rv (d :: ds) = rv ds ++ [UInt8.ofNat (48 + d)] := by simp [rv]
theorem toNat_dig {d : Nat} (h : d < 10) : (UInt8.ofNat (48 + d)).toNat = 48 + d := by
  rw [UInt8.toNat_ofNat']
  omega
theorem rv_val : ∀ ds : List Nat, (∀ d ∈ ds, d < 10) → dval (rv ds) = (val ds : Int) ∧ digs (rv ds)
  | [], _ => ⟨rfl, fun c h => by simp [rv] at h⟩
  | d :: r, h => by
    have d9 := h d (by simp)
    obtain ⟨h1, h2⟩ := rv_val r (fun x hx => h x (by simp [hx]))
    rw [rv_cons, dval_snoc, h1, toNat_dig d9, val]
    refine ⟨by omega, fun c hc => ?_⟩
    rcases List.mem_append.1 hc with hc | hc
    · exact h2 c hc
    · rw [List.mem_singleton.1 hc, toNat_dig d9]; omega
theorem strip {s : ByteArray} (h : 1 < s.size) (h0 : s[0].toNat = 48) (hd : digs s.data.toList) : dval (s.extract 1 s.size).data.toList = dval s.data.toList ∧ digs (s.extract 1 s.size).data.toList := by
  rw [rest_of]
  have D : s.data.toList = s[0] :: s.data.toList.drop 1 := by
    have := drop_at s 0 (by omega)
    simpa using this
  refine ⟨?_, fun c hc => hd c (List.mem_of_mem_drop hc)⟩
  conv => rhs; rw [D]
  simp [dval, h0]
theorem head_of (s : ByteArray) (h : 0 < s.size) : s.data.toList.head? = some s[0] := by
  have hl : s.data.toList.length = s.size := Array.length_toList
  rw [List.head?_eq_getElem?, List.getElem?_eq_getElem (by omega)]
  rfl

set_option maxHeartbeats 1000000 in
set_option maxRecDepth 100000 in
theorem text_num {v : Value} {ds : List Nat} (w : World) (h : Rd w v ds) (hd : ∀ d ∈ ds, d < 10) (hl : ds.length ≤ 1000) :
    Calls Tryz.prog 62 #[v] w fun e w' => ∃ s : ByteArray, e = .returned (.string s) ∧ s.size ≤ 1001 ∧ good s ∧ dval s.data.toList = (val ds : Int) ∧ Below w.heap.size w w' := by
  obtain ⟨a, cap, rfl, h1, h2, h3⟩ := h
  have H3 : Hid (∀ (j d : Nat), ds[j]? = some d → ∃ b off : Nat, a = some ⟨b, off, none⟩ ∧ w.cell? ⟨b, off + j, none⟩ = some (.int .i64 (d : Int)) ∧ b < w.heap.size) := h3
  have HD : Hid (∀ d ∈ ds, d < 10) := hd
  clear h3 hd
  go_enter Tryz.func62, Tryz.ntmps62
  go_wp2
  go_loopw [3, 8] (fun f g wr => ∃ (S : ByteArray) (j : Nat), f = .string S ∧ g = .int .i64 j ∧ j ≤ ds.length ∧ S.size = j ∧ Hid (S.data.toList = rv (ds.take j)) ∧ Below w.heap.size w wr) (fun _ g _ => ds.length - (intOf g).toNat)
  case atStart => exact ⟨⟨#[]⟩, 0, rfl, rfl, by omega, rfl, by unfold Hid; simp [rv], by go_grown⟩
  case round =>
    obtain ⟨S, j, rfl, rfl, jl, sj, HS, HB⟩ := hrel
    have hsB := HB.size
    by_cases cj : j < ds.length
    · obtain ⟨d, hdj⟩ : ∃ d, ds[j]? = some d := ⟨ds[j], List.getElem?_eq_getElem cj⟩
      obtain ⟨b, off, rfl, cell, bw⟩ := H3.out j d hdj
      have cw : wr.cell? ⟨b, off + j, none⟩ = some (.int .i64 (d : Int)) := (HB.cell (by exact bw)).trans cell
      have d9 : d < 10 := HD.out d (List.mem_of_getElem? hdj)
      have T : Hid ((⟨#[48 + UInt8.ofNat d]⟩ ++ S : ByteArray).data.toList = rv (ds.take (j + 1))) := by
        unfold Hid
        rw [List.take_succ_eq_append_getElem cj, show ds[j] = d from (List.getElem?_eq_some_iff.1 hdj).2, rv_snoc, ← HS.out]
        simp
      have hcv := conv_one (wr.alloc (.cells #[.int .u8 (48 + (d : Int))] 5)) wr.heap.size (48 + (d : Int)) (by simp [go_sem])
      have j0 : (0 : Int) ≤ (j : Int) := by omega
      have j1 : (j : Int) < (ds.length : Int) := by omega
      clear HS cell hdj
      go_wp2
      go_roundw
      case rel => exact ⟨_, j + 1, rfl, by go_num, by omega, by rw [ByteArray.size_append, sj]; show 1 + j = j + 1; omega, T, by go_grown⟩
      case measure => simp [intOf]; omega
    · obtain rfl : j = ds.length := by omega
      have E := HS.out
      rw [List.take_length] at E
      obtain ⟨v1, v2⟩ := rv_val ds HD.out
      rw [← E] at v1 v2
      have V1 : Hid (dval S.data.toList = (val ds : Int) ∧ digs S.data.toList) := ⟨v1, v2⟩
      have S1 : Hid (S.size = 0 → val ds = 0) := by
        intro hz
        have : ds = [] := List.length_eq_zero_iff.1 (by omega)
        rw [this]; rfl
      clear E v1 v2 HS
      go_wp2
      go_loopw [3] (fun f wr => ∃ S : ByteArray, f = .string S ∧ S.size ≤ 1000 ∧ Hid (dval S.data.toList = (val ds : Int) ∧ digs S.data.toList) ∧ Hid (S.size = 0 → val ds = 0) ∧ Below w.heap.size w wr) (fun f _ => lenOf f)
      case atStart => exact ⟨S, rfl, by omega, V1, S1, HB⟩
      case round =>
        clear V1 S1 HB hsB
        obtain ⟨S, rfl, sl, V1, S1, HB⟩ := hrel
        have hsB := HB.size
        by_cases c1 : 1 < S.size
        · have b8 : S[0].toNat < 256 := S[0].toNat_lt
          by_cases c2 : S[0].toNat = 48
          · have e0 : (((S[0].toNat : Nat) : Int) == 48) = true := by simp [c2]
            obtain ⟨s1, s2⟩ := strip c1 c2 V1.out.2
            have V2 : Hid (dval (S.extract 1 S.size).data.toList = (val ds : Int) ∧ digs (S.extract 1 S.size).data.toList) := ⟨by rw [s1]; exact V1.out.1, s2⟩
            clear s1 s2 c2 V1
            go_wp2
            go_roundw
            case rel => exact ⟨_, rfl, by simp; omega, V2, by intro hz; simp at hz; omega, HB⟩
            case measure => show (S.extract 1 S.size).size < S.size; simp; omega
          · have e0 : (((S[0].toNat : Nat) : Int) == 48) = false := by simp; omega
            have ne := not_empty S (by omega)
            have G : Hid (good S) := ⟨V1.out.2, by omega, fun _ => by rw [head_of S (by omega)]; simpa using c2⟩
            clear c2
            go_wp2
            go_ret
            exact ⟨S, rfl, by omega, G.out, V1.out.1, HB⟩
        · by_cases cz : S.size = 0
          · have e : S.toList.isEmpty = true := by rw [empty_iff]; exact decide_eq_true (by apply List.length_eq_zero_iff.1; simpa using cz)
            have e1 : S.toList = [] := by simpa using e
            have v0 := S1.out cz
            have V0 : Hid (val ds = 0) := v0
            clear v0 V1 S1
            go_wp2
            go_ret
            exact ⟨_, rfl, by decide, ⟨fun c hc => by simp at hc; subst hc; decide, by decide, fun h => absurd h (by decide)⟩, by rw [V0.out]; decide, HB⟩
          · have ne := not_empty S (by omega)
            have G : Hid (good S) := ⟨V1.out.2, by omega, fun h => absurd h c1⟩
            go_wp2
            go_ret
            exact ⟨S, rfl, by omega, G.out, V1.out.1, HB⟩

end Go.Proofs.YtpbgolcimbjekaaGreatDoor
