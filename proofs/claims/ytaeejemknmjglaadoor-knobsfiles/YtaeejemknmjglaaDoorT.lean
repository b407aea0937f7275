/-
  Contracts of the document's own answers for layer 1 (numbers as twenty digits of sixteen bits) at this program: Less. Conditions: digits lie below 2^16.
-/
import Derived.Test.YtaeejemknmjglaaDoorG
import Derived.Test.YtaeejemknmjglaaDoorS
import Derived.Deep.QuietTactic
import Derived.BigQuiet
import Derived.Deep.MidRow
namespace Go.Proofs.YtaeejemknmjglaaDoor
open Go.RowKit

/-- The cells of twenty digits. -/
def dl (D : Nat → Int) : List Value := (List.range 20).map fun i => .int .u64 (D i)
theorem dl_get (D : Nat → Int) (i : Nat) (h : i < 20) : (dl D).toArray[i]? = some (.int .u64 (D i)) := by
  simp [dl, h]
theorem dl_len (D : Nat → Int) : (dl D).length = 20 := by simp [dl]

/-- Twenty digits lie in a block, and may be written. -/
def Tab (w : World) (b : Nat) (F : Nat → Int) : Prop := ∀ j, j < 20 → w.cell? ⟨b, j, none⟩ = some (.int .u64 (F j)) ∧ w.frozen? ⟨b, j, none⟩ = false
def upd (F : Nat → Int) (k : Nat) (v : Int) (i : Nat) : Int := if i = k then v else F i

theorem Tab.drewN {w : World} {b : Nat} {F : Nat → Int} (h : Tab w b F) (n : Nat) : Tab (w.drewN n) b F := h
theorem Tab.drew {w : World} {b : Nat} {F : Nat → Int} (h : Tab w b F) : Tab w.drew b F := h
theorem Tab.congr {w : World} {b : Nat} {F G : Nat → Int} (h : Tab w b F) (e : ∀ j, j < 20 → F j = G j) : Tab w b G := fun j hj => by rw [← e j hj]; exact h j hj
theorem Tab.set {w : World} {b : Nat} {F : Nat → Int} (h : Tab w b F) {k : Nat} (hk : k < 20) (v : Int) : Tab (w.setCell ⟨b, k, none⟩ (.int .u64 v)) b (upd F k v) := fun j hj => by
  refine ⟨?_, by rw [World.frozen?_setCell]; exact (h j hj).2⟩
  unfold upd
  by_cases e : j = k
  · subst e; rw [if_pos rfl]; exact World.cell?_setCell_same _ _ _ (h j hj).1
  · rw [if_neg e, World.cell?_setCell_other _ _ _ _ (by intro hh; exact e (by injection hh with _ h2 _; exact h2.symm))]; exact (h j hj).1
theorem Tab.other {w : World} {b : Nat} {F : Nat → Int} (h : Tab w b F) (p : Addr) (v : Value) (hp : p.block ≠ b) : Tab (w.setCell p v) b F := fun j hj =>
  ⟨by rw [World.cell?_setCell_other _ _ _ _ (by intro hh; exact hp (by rw [hh]))]; exact (h j hj).1, by rw [World.frozen?_setCell]; exact (h j hj).2⟩
theorem Tab.later {w w1 : World} {b : Nat} {F : Nat → Int} (h : Tab w b F) (hb : Below w.heap.size w w1) (hz : b < w.heap.size) : Tab w1 b F := fun j hj =>
  ⟨cell_later hb (h j hj).1, (hb.frozen (p := ⟨b, j, none⟩) hz).trans (h j hj).2⟩
theorem Tab.alloc {w : World} {b : Nat} {F : Nat → Int} (h : Tab w b F) (o : Obj) (hz : b < w.heap.size) : Tab (w.alloc o) b F := h.later ((Below.refl _ _).alloc (Nat.le_refl _) o) hz
theorem Tab.new (w : World) (F : Nat → Int) (t : TypeId) : Tab (w.alloc (.cells (dl F).toArray t)) w.heap.size F := fun j hj =>
  ⟨by rw [World.cell?_alloc_at _ _ _ _ rfl]; exact dl_get F j hj, by simp [go_sem]⟩
theorem Tab.new_at (w : World) (F : Nat → Int) (t : TypeId) (b : Nat) (hb : b = w.heap.size) : Tab (w.alloc (.cells (dl F).toArray t)) b F := by subst hb; exact Tab.new w F t
theorem Tab.zeros (w : World) (t : TypeId) (b : Nat) (hb : b = w.heap.size) : Tab (w.alloc (.cells (Array.replicate 20 (.int .u64 0)) t)) b (fun _ => 0) := by
  subst hb
  exact fun j hj => ⟨by rw [World.cell?_alloc_at _ _ _ _ rfl, Array.getElem?_replicate, if_pos hj], by simp [go_sem]⟩
theorem Tab.range {w : World} {b : Nat} {F : Nat → Int} (h : Tab w b F) : w.rangeAt b 0 (dl F) := fun j v hv => by
  have hj : j < 20 := by
    have := (List.getElem?_eq_some_iff.1 hv).1
    rw [dl_len] at this; exact this
  have e : (dl F)[j]? = some (.int .u64 (F j)) := by simp [dl, hj]
  rw [e] at hv
  rw [Nat.zero_add, (h j hj).1, hv]
theorem Tab.there {w : World} {b : Nat} {F : Nat → Int} (h : Tab w b F) : w.there b 0 20 := fun j hj => by
  rw [Nat.zero_add, (h j hj).1]
  exact ⟨rfl, (h j hj).2⟩
theorem dl_size (F : Nat → Int) : (dl F).toArray.size = 20 := by simp [dl]
theorem below_setCells {B : Nat} {a : World} (b : Nat) (hb : B ≤ b) : ∀ (vs : List Value) (o : Nat) {w : World}, Below B a w → Below B a (w.setCells b o vs) := by
  intro vs
  induction vs with
  | nil => intro o w h; exact h
  | cons v vs ih => intro o w h; exact ih (o + 1) (h.setCell hb v)
theorem dl_one (F : Nat → Int) : (dl F).toArray.all (·.oneCell') = true := all_oneCell_toArray (by
  intro v hv
  obtain ⟨i, _, rfl⟩ := List.mem_map.1 hv
  rfl)
theorem dig_info : (Tryd.prog.info? 88).map (·.size) = some 20 := by kernel_rfl

/-- The cells behind k rounds of a sum. -/
def mix (k : Nat) (f g : Nat → Int) (i : Nat) : Int := if i < k then f i else g i
theorem mix_same (k : Nat) (f g : Nat → Int) : mix k f g k = g k := by simp [mix]
theorem mix_upd (k : Nat) (f g : Nat → Int) (i : Nat) : upd (mix k f g) k (f k) i = mix (k + 1) f g i := by
  unfold upd mix
  by_cases e : i = k
  · subst e; rw [if_pos rfl, if_pos (by omega)]
  · rw [if_neg e]
    by_cases c : i < k
    · rw [if_pos c, if_pos (by omega)]
    · rw [if_neg c, if_neg (by omega)]

set_option maxHeartbeats 4000000 in
set_option maxRecDepth 100000 in
theorem plus_any (d e : Nat → Int) (w : World) (hd : Digs d) (he : Digs e) :
    Calls Tryd.prog 56 #[.agg (dl d).toArray, .agg (dl e).toArray] w fun x w' => x = .returned (.agg (dl (psum d e)).toArray) ∧ Below w.heap.size w w' := by
  go_enter Tryd.func56, Tryd.ntmps56
  go_wp2
  go_loopw [5, 6] (fun s5 s6 wr => ∃ k : Nat, k ≤ 20 ∧ s5 = .int .u64 (carry d e k) ∧ s6 = .int .i64 k ∧ Tab wr w.heap.size (mix k (psum d e) d) ∧ Tab wr (w.heap.size + 1) e ∧ (∃ G, Tab wr (w.heap.size + 1 + 1) G) ∧
      w.heap.size + 3 ≤ wr.heap.size ∧ Below w.heap.size w wr) (fun _ s6 _ => 20 - (intOf s6).toNat)
  case atStart =>
    refine ⟨0, by omega, rfl, rfl, ?_, ?_, ⟨_, Tab.zeros _ _ _ (by simp)⟩, by simp, by go_grown⟩
    · exact ((((Tab.new w d _).alloc _ (by simp)).alloc _ (by simp; omega))).congr (fun j _ => by simp [mix])
    · exact (Tab.new_at _ e _ _ (by simp)).alloc _ (by simp)
  case round =>
    obtain ⟨k, hk, rfl, rfl, HD, HE, ⟨G, HG⟩, hsz, HB⟩ := hrel
    have cb := carry_bd d e hd he k
    by_cases hlt : k < 20
    · have dk := hd k
      have ek := he k
      have cd := (HD k hlt).1
      rw [mix_same] at cd
      have ce := (HE k hlt).1
      have fk := (HD k hlt).2
      have m0 : (0 : Int) ≤ (k : Int) := by omega
      have m1 : (k : Int) < 20 := by omega
      go_wp2_with (fail)
      go_quiet (fail)
      go_wp2
      go_roundw
      case rel =>
        go_light
        exact ⟨k + 1, by omega, rfl, by go_num, ((HD.drewN _).set hlt _).congr (fun j _ => mix_upd k (psum d e) d j), (HE.drewN _).other _ _ (by simp), ⟨G, (HG.drewN _).other _ _ (by simp; omega)⟩, by simp; omega, (below_drewN HB _).setCell (by simp) _⟩
      case measure => simp [intOf]; omega
    · obtain rfl : k = 20 := by omega
      have HR := (HD.congr (G := psum d e) (fun j hj => by simp [mix, hj])).range
      have HT := HG.there
      have HS := World.rangeAt_setCells_same wr (w.heap.size + 1 + 1) 0 (dl (psum d e)) (by rw [dl_len]; exact HT)
      clear HD HE HG
      go_upto_region 8 with (fail)
      refine wp_region_lit ?_
      refine wpList_load_mid rfl _ _ rfl (w.heap.size) 0 rfl (dl (psum d e)) _ HR Tryd.underlying88 rfl (by rw [dl_len]; exact dig_info) ?_
      simp only [Act.put, List.setIfInBounds_toArray, List.set_cons_zero, List.set_cons_succ]
      have HT' : wr.there (w.heap.size + 1 + 1) 0 (dl (psum d e)).toArray.size := by rw [dl_size]; exact HT
      refine wpList_store_mid rfl _ _ _ rfl (w.heap.size + 1 + 1) 0 (dl (psum d e)).toArray rfl rfl HT' (by rw [dl_size]; exact dig_info) (dl_one _) ?_
      have HB' := below_setCells (w.heap.size + 1 + 1) (by omega) (dl (psum d e)).toArray.toList 0 HB
      rw [List.toList_toArray] at HB' ⊢
      generalize wr.setCells (w.heap.size + 1 + 1) 0 (dl (psum d e)) = W' at HS HB' ⊢
      go_wp2
      refine bodyPost_ret (v := .agg (dl (psum d e)).toArray) ?_ rfl ⟨rfl, HB'⟩
      have hl := run_loadVar_mid W' (w.heap.size + 1 + 1) 0 88 (dl (psum d e)) _ HS Tryd.underlying88 rfl (by rw [dl_len]; exact dig_info)
      simp [results, Tryd.results56, Act.put, asAddr, hl]

end Go.Proofs.YtaeejemknmjglaaDoor
