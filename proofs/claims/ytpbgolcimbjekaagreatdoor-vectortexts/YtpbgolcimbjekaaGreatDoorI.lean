/-
  The contract of package wide's Parse at this program, over any text: which number its digits make. Conditions: none beyond the text's length fitting the machine.
-/
import Derived.Test.YtpbgolcimbjekaaGreatDoorH
import Derived.Deep.CutRange
import Derived.Deep.DeepCutAuto
namespace Go.Proofs.YtpbgolcimbjekaaGreatDoor
open Go.RowKit

/-- The number that digits make, the greatest first. -/
def dval (l : List UInt8) : Int := l.foldl (fun v c => v * 10 + ((c.toNat : Int) - 48)) 0
def digs (l : List UInt8) : Prop := ∀ c ∈ l, 48 ≤ c.toNat ∧ c.toNat ≤ 57

theorem dval_snoc (l : List UInt8) (c : UInt8) : dval (l ++ [c]) = dval l * 10 + ((c.toNat : Int) - 48) := by
  simp [dval]
theorem dval_append (l m : List UInt8) : dval (l ++ m) = m.foldl (fun v c => v * 10 + ((c.toNat : Int) - 48)) (dval l) := by
  simp [dval]
theorem fold_mono (m : List UInt8) : ∀ v : Int, 0 ≤ v → digs m → v ≤ m.foldl (fun v c => v * 10 + ((c.toNat : Int) - 48)) v := by
  induction m with
  | nil => intro v _ _; simp
  | cons c t ih =>
    intro v hv hd
    have hc := hd c (by simp)
    have := ih (v * 10 + ((c.toNat : Int) - 48)) (by omega) (fun x hx => hd x (by simp [hx]))
    simp only [List.foldl_cons]
    omega
theorem digs_snoc {l : List UInt8} {c : UInt8} (h : digs l) (h0 : 48 ≤ c.toNat) (h1 : c.toNat ≤ 57) : digs (l ++ [c]) := by
  intro x hx
  rcases List.mem_append.1 hx with hx | hx
  · exact h x hx
  · simp at hx; subst hx; exact ⟨h0, h1⟩
theorem take_snoc (s : ByteArray) (k : Nat) (h : k < s.size) : s.data.toList.take (k + 1) = s.data.toList.take k ++ [s[k]] := by
  rw [List.take_succ_eq_append_getElem (by simpa using h)]; rfl

/-- Is a text a number's own? -/
def good (s : ByteArray) : Prop := digs s.data.toList ∧ 0 < s.size ∧ (1 < s.size → ¬ (s.data.toList.head?.map UInt8.toNat = some 48))

/-- One digit more: what withDigit answers. -/
def Step (h l : Int) (c : UInt8) (h3 l3 : Int) (b3 : Bool) : Prop :=
  (48 ≤ c.toNat ∧ c.toNat ≤ 57 ∧ Fits h3 l3 b3 ((h * 18446744073709551616 + l) * 10 + ((c.toNat : Int) - 48))) ∨ (¬ (48 ≤ c.toNat ∧ c.toNat ≤ 57) ∧ b3 = false ∧ h3 = 0 ∧ l3 = 0)

theorem not_long (s : ByteArray) (k : Nat) (hlt : k < s.size) (h l : Int) (fv : 340282366920938463463374607431768211456 ≤ (h * 18446744073709551616 + l) * 10 + ((s[k].toNat : Int) - 48))
    (hv : h * 18446744073709551616 + l = dval (s.data.toList.take k)) (ts : s.data.toList.take (k + 1) = s.data.toList.take k ++ [s[k]]) :
    ¬ (digs s.data.toList ∧ dval s.data.toList < 340282366920938463463374607431768211456) := by
  rintro ⟨hd, hv2⟩
  have e : dval (s.data.toList.take (k + 1)) = (h * 18446744073709551616 + l) * 10 + ((s[k].toNat : Int) - 48) := by rw [ts, dval_snoc, hv]
  have m := fold_mono (s.data.toList.drop (k + 1)) (dval (s.data.toList.take (k + 1))) (by omega) (fun c hc => hd c (List.mem_of_mem_drop hc))
  rw [← dval_append, List.take_append_drop] at m
  omega

end Go.Proofs.YtpbgolcimbjekaaGreatDoor
