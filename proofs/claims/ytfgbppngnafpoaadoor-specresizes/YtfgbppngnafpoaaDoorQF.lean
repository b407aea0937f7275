/-
  SpecResizes of this program: true for every pod and every list of changes. Conditions: the tables of the program lie as its text lays them; the containers and the changes read as lists; the names' lengths fit the machine.
-/
import Derived.Test.YtfgbppngnafpoaaDoorQE
import Derived.Test.YtfgbppngnafpoaaDoorPW
import Derived.Test.YtfgbppngnafpoaaDoorPY
namespace Go.Proofs.YtfgbppngnafpoaaDoor.Sp
open Go.RowKit

set_option maxHeartbeats 2000000 in
set_option maxRecDepth 100000 in
theorem specResizes_any {v u : Value} {zs : List Ct} {l : List Ch} (pn : ByteArray) (pr po : Int) (hm : pn.size ≤ maxLen) (w : World) (hL : LaidS w) (h : RdC w v zs) (k : RdX w u l) :
    Calls Tryd.prog 5 #[.agg #[.string pn, .int .i64 pr, .int .i64 po, v], u] w fun e w' => e = .returned (.bool true) ∧ Below w.heap.size w w' := by
  have HL : Hid (LaidS w) := hL
  have HZ : Hid (RdC w v zs) := h
  have HX : Hid (RdX w u l) := k
  have HM : Hid (pn.size ≤ maxLen) := hm
  clear hL hm
  obtain ⟨sa, cap, rfl, h1, h2, -⟩ := h
  obtain ⟨sx, capx, rfl, k1, k2, -⟩ := k
  have zl : zs.length ≤ maxLen := by omega
  have ll : l.length ≤ maxLen := by omega
  unfold maxLen at zl ll
  go_enter Tryd.func5, Tryd.ntmps5
  go_wp2_with (fail)
  refine (sfirst_is _ (HL.out.alloc _)).mono ?_
  rintro e w1 ⟨rfl, hw1⟩
  have HBw1 : Below w.heap.size w w1 := Below.trans (by go_grown) (hw1.mono (by first | omega | (simp; done) | (simp; omega)))
  have p_p : Cs w1 (w.heap.size) [.string pn, .int .i64 pr, .int .i64 po, .slice sa zs.length cap] := Cs.later hw1 (by repeat (first | assumption | (refine Cs.new _ _ _ _ ?_; simp; done) | refine Cs.alloc ?_ _ | refine Cs.drew ?_ | (refine Cs.beside ?_ _ _ (by omega))))
  have q_p := p_p
  have p0 : w1.cell? ⟨w.heap.size, 0, none⟩ = some (.string pn) := p_p.1 0 _ rfl
  have p1 : w1.cell? ⟨w.heap.size, 1, none⟩ = some (.int .i64 pr) := p_p.1 1 _ rfl
  have p2 : w1.cell? ⟨w.heap.size, 2, none⟩ = some (.int .i64 po) := p_p.1 2 _ rfl
  have p3 : w1.cell? ⟨w.heap.size, 3, none⟩ = some (.slice sa zs.length cap) := p_p.1 3 _ rfl
  have pz : w.heap.size < w1.heap.size := p_p.2.2
  clear p_p
  have hsw1 := hw1.size
  (try simp at hsw1)
  clear hw1
  go_wp2_with (fail)
  refine (great_is pn pr po _ (HZ.out.later HBw1)).mono ?_
  rintro e w2 ⟨gr, rfl, -, hw2⟩
  have HBw2 : Below w.heap.size w w2 := Below.trans (by go_grown) (hw2.mono (by first | omega | (simp; done) | (simp; omega)))
  have p_p : Cs w2 (w.heap.size) [.string pn, .int .i64 pr, .int .i64 po, .slice sa zs.length cap] := Cs.later hw2 (by repeat (first | assumption | (refine Cs.new _ _ _ _ ?_; simp; done) | refine Cs.alloc ?_ _ | refine Cs.drew ?_ | (refine Cs.beside ?_ _ _ (by omega))))
  clear q_p p0 p1 p2 p3 pz
  have q_p := p_p
  have p0 : w2.cell? ⟨w.heap.size, 0, none⟩ = some (.string pn) := p_p.1 0 _ rfl
  have p1 : w2.cell? ⟨w.heap.size, 1, none⟩ = some (.int .i64 pr) := p_p.1 1 _ rfl
  have p2 : w2.cell? ⟨w.heap.size, 2, none⟩ = some (.int .i64 po) := p_p.1 2 _ rfl
  have p3 : w2.cell? ⟨w.heap.size, 3, none⟩ = some (.slice sa zs.length cap) := p_p.1 3 _ rfl
  have pz : w.heap.size < w2.heap.size := p_p.2.2
  clear p_p
  have hsw2 := hw2.size
  (try simp at hsw2)
  clear hw2
  by_cases l1 : (2000 : Int) < gr
  · go_wp2
    go_ret
    exact ⟨rfl, HBw2⟩
  by_cases l2 : (30 : Int) < (l.length : Int)
  · go_wp2
    go_ret
    exact ⟨rfl, HBw2⟩
  clear HBw1
  go_wp2_with (fail)
  refine (resize_is pn pr po HM.out _ (HL.out.later HBw2) (HZ.out.later HBw2) (HX.out.later HBw2)).mono ?_
  rintro e w3 ⟨vq, rfl, rd, hw3⟩
  obtain ⟨⟨er, out⟩, hres⟩ : ∃ x, resV pn pr po zs l = x := ⟨_, rfl⟩
  rw [hres] at rd ⊢
  have RV : Hid (resV pn pr po zs l = (er, out)) := hres
  dsimp only at rd ⊢
  have HBw3 : Below w.heap.size w w3 := Below.trans (by go_grown) (hw3.mono (by first | omega | (simp; done) | (simp; omega)))
  have p_p : Cs w3 (w.heap.size) [.string pn, .int .i64 pr, .int .i64 po, .slice sa zs.length cap] := Cs.later hw3 (by repeat (first | assumption | (refine Cs.new _ _ _ _ ?_; simp; done) | refine Cs.alloc ?_ _ | refine Cs.drew ?_ | (refine Cs.beside ?_ _ _ (by omega))))
  clear q_p p0 p1 p2 p3 pz
  have q_p := p_p
  have p0 : w3.cell? ⟨w.heap.size, 0, none⟩ = some (.string pn) := p_p.1 0 _ rfl
  have p1 : w3.cell? ⟨w.heap.size, 1, none⟩ = some (.int .i64 pr) := p_p.1 1 _ rfl
  have p2 : w3.cell? ⟨w.heap.size, 2, none⟩ = some (.int .i64 po) := p_p.1 2 _ rfl
  have p3 : w3.cell? ⟨w.heap.size, 3, none⟩ = some (.slice sa zs.length cap) := p_p.1 3 _ rfl
  have pz : w.heap.size < w3.heap.size := p_p.2.2
  clear p_p
  have hsw3 := hw3.size
  (try simp at hsw3)
  clear hw3
  clear hres HBw2 l1 l2
  obtain ⟨pn', hpn⟩ : ∃ x, (if er = 0 then pn else ⟨#[]⟩) = x := ⟨_, rfl⟩
  obtain ⟨pr', hpr⟩ : ∃ x, (if er = 0 then pr else 0) = x := ⟨_, rfl⟩
  obtain ⟨po', hpo⟩ : ∃ x, (if er = 0 then po else 0) = x := ⟨_, rfl⟩
  have RP : Hid (∀ v, resP er pn pr po v = .tuple #[.agg #[.string pn', .int .i64 pr', .int .i64 po', v], .int .i64 er]) := fun v => by unfold resP; rw [hpn, hpr, hpo]
  have RO : Hid (RdC w3 vq out) := rd
  obtain ⟨so, capo, rfl, -⟩ := id rd
  rw [RP.out]
  clear rd hpn hpr hpo
  go_wp2_with (fail)
  refine (refResize_is pn pr po HM.out _ ((HZ.out.later HBw3).alloc _) ((HX.out.later HBw3).alloc _)).mono ?_
  rintro e w4 ⟨vw, rfl, rd, hw4⟩
  rw [RV.out] at rd ⊢
  dsimp only at rd ⊢
  have RQ : Hid (RdC w4 (.slice so out.length capo) out) := (RO.out.alloc _).later hw4
  have RW : Hid (RdC w4 vw out) := rd
  obtain ⟨sw, capw, rfl, -⟩ := id rd
  rw [RP.out]
  have HBw4 : Below w.heap.size w w4 := Below.trans (by go_grown) (hw4.mono (by first | omega | (simp; done) | (simp; omega)))
  have p_q : Cs w4 (w3.heap.size) [.string pn', .int .i64 pr', .int .i64 po', .slice so out.length capo] := Cs.later hw4 (by repeat (first | assumption | (refine Cs.new _ _ _ _ ?_; simp; done) | refine Cs.alloc ?_ _ | refine Cs.drew ?_ | (refine Cs.beside ?_ _ _ (by omega))))
  have q_q := p_q
  have q0 : w4.cell? ⟨w3.heap.size, 0, none⟩ = some (.string pn') := p_q.1 0 _ rfl
  have q1 : w4.cell? ⟨w3.heap.size, 1, none⟩ = some (.int .i64 pr') := p_q.1 1 _ rfl
  have q2 : w4.cell? ⟨w3.heap.size, 2, none⟩ = some (.int .i64 po') := p_q.1 2 _ rfl
  have q3 : w4.cell? ⟨w3.heap.size, 3, none⟩ = some (.slice so out.length capo) := p_q.1 3 _ rfl
  have qz : w3.heap.size < w4.heap.size := p_q.2.2
  clear p_q
  have hsw4 := hw4.size
  (try simp at hsw4)
  clear hw4
  clear rd HBw3
  have CS : Hid (∀ w, RdC w (.slice so out.length capo) out → RdC w (.slice sw out.length capw) out → Calls Tryd.prog 24 #[.agg #[.string pn', .int .i64 pr', .int .i64 po', .slice so out.length capo], .agg #[.string pn', .int .i64 pr', .int .i64 po', .slice sw out.length capw]] w fun e w' => e = .returned (.bool true) ∧ Below w.heap.size w w') := fun w h k => by
    have := refSame_is pn' pr' po' pn' pr' po' w h k
    rwa [sameB_iff.2 ⟨rfl, rfl, rfl, rfl⟩] at this
  go_wp2_with (fail)
  refine (CS.out _ (RQ.out.alloc _) (RW.out.alloc _)).mono ?_
  rintro e w5 ⟨rfl, hw5⟩
  have HB5 : Below w.heap.size w w5 := Below.trans (show Below w.heap.size w _ by go_grown) (hw5.mono (by simp; omega))
  clear hw5
  go_wp2
  go_ret
  exact ⟨rfl, HB5⟩

end Go.Proofs.YtfgbppngnafpoaaDoor.Sp
