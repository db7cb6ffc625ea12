/-
  What is seen at a Stop: (*code.Run).See.
-/
import Derived.Test.YtoepcplbpochpaaDoorUnit16

namespace Go.Proofs.YtoepcplbpochpaaDoor
open Go.RowKit

/-- What a Stop leaves behind. -/
def SeePost (w : World) (B : Nat) (s' : St) (vo vs : Value) (e : Ending) (w' : World) : Prop :=
  e = .returned (.tuple #[]) ∧ (∃ vs', Inv w' B s' vo vs') ∧ Keep (fun k => k = B ∨ some k = vs.ownBlock) w w'
theorem SeePost.drew {w w' : World} {B : Nat} {s : St} {vo vs : Value} {e : Ending} (h : SeePost w B s vo vs e w') : SeePost w B s vo vs e w'.drew := by
  obtain ⟨h1, ⟨vs', h2, h3, h4⟩, h5⟩ := h
  exact ⟨h1, ⟨vs', h2.drew, h3.drew, h4.drew⟩, h5.drew⟩
theorem see_post {w w2 wz w3 : World} {B : Nat} {s : St} {vo vs v' : Value} {n : Int} (hI2 : Inv w2 B s vo vs) (hK2 : Keep (fun _ => False) w w2) (hz : Keep (fun _ => False) w2 wz) (hg : wz.grownBy w3 vs.ownBlock)
    (hown : w3.ownsRow (B + 1) 63 5 v' (s.stops.length + 1) (snCells s.stops ++ [.int .i64 n, .int .i64 (s.tell 0), .int .i64 (s.tell 1), .int .i64 (s.tell 2), .int .i64 (s.tell 3)])) : SeePost w B (s.see n) vo vs (.returned (.tuple #[])) (w3.setCell ⟨B, 22, none⟩ v') := by
  have hB2 := hI2.1.lt
  have hne : some B ≠ vs.ownBlock := fun e => by have := (own_in hI2.2.2 B e.symm).1; omega
  have hbl := grown_block hz hg hne hB2
  have hk3 : Keep (fun k => some k = vs.ownBlock) w2 w3 := (hz.mono (fun _ _ h => h.elim)).grown hg (fun k e _ => e.symm)
  have hkB : Keep (fun k => k = B) w3 (w3.setCell ⟨B, 22, none⟩ v') := keep_set (Keep.refl _ _) _ _
  refine ⟨rfl, ⟨v', ((hI2.1.of_block hbl).set_stops v' n), ?_, ?_⟩, ?_⟩
  · have hs3 := own_keep hI2.2.1 hk3 (fun g hg e => own_apart hI2.2.1 hI2.2.2 (by decide) g hg e.symm)
    exact own_keep hs3 hkB (fun g hg e => by have := (own_in hs3 g hg).1; omega)
  · show World.ownsRow _ _ _ _ _ ((s.stops ++ [_]).length) (snCells (s.stops ++ [_]))
    rw [List.length_append, snCells_snoc]
    exact own_keep hown hkB (fun g hg e => by have := (own_in hown g hg).1; omega)
  · exact ((hK2.mono (T := fun k => k = B ∨ some k = vs.ownBlock) (fun _ _ h => h.elim)).trans hk3 (fun _ _ h => .inr h)).trans hkB (fun _ _ h => .inl h)

set_option maxRecDepth 100000 in
set_option maxHeartbeats 4000000 in
theorem see_any (B : Nat) (s : St) (vo vs : Value) (n v0 v1 v2 v3 : Int) (w : World) (h : Inv w B s vo vs) (e0 : s.tell 0 = v0) (e1 : s.tell 1 = v1) (e2 : s.tell 2 = v2) (e3 : s.tell 3 = v3) (hl : s.stops.length ≤ 100000) :
    Calls Tryd.prog 85 #[.pointer (some ⟨B, 0, none⟩), .int .i64 n, .agg #[.int .i64 v0, .int .i64 v1, .int .i64 v2, .int .i64 v3]] w (SeePost w B (s.see n) vo vs) := by
  have hB := h.1.lt
  have HI := hide h
  have HE0 := hide e0
  have HE1 := hide e1
  have HE2 := hide e2
  have HE3 := hide e3
  clear h e0 e1 e2 e3
  go_enter Tryd.func85, Tryd.ntmps85
  go_wp2_with fail
  obtain ⟨w2, hw2⟩ : ∃ w2, w2 = w.alloc (.cells #[.int .i64 v0, .int .i64 v1, .int .i64 v2, .int .i64 v3] 61) := ⟨_, rfl⟩
  rw [← hw2]
  have HK2 : Hid (Keep (fun _ => False) w w2) := by rw [hw2]; exact (Keep.refl _ _).alloc _
  have q : ∀ i, w2.cell? ⟨w.heap.size, i, none⟩ = #[Value.int .i64 v0, .int .i64 v1, .int .i64 v2, .int .i64 v3][i]? := fun i => by rw [hw2, World.cell?_alloc_at (hn := rfl)]
  have q0 : w2.cell? ⟨w.heap.size, 0, none⟩ = some (.int .i64 v0) := (q 0).trans rfl
  have q1 : w2.cell? ⟨w.heap.size, 1, none⟩ = some (.int .i64 v1) := (q 1).trans rfl
  have q2 : w2.cell? ⟨w.heap.size, 2, none⟩ = some (.int .i64 v2) := (q 2).trans rfl
  have q3 : w2.cell? ⟨w.heap.size, 3, none⟩ = some (.int .i64 v3) := (q 3).trans rfl
  have HI2 : Hid (Inv w2 B s vo vs) := ⟨(unhide HI).1.of_block ((unhide HK2).block B hB (fun h => h)), own_keep (unhide HI).2.1 (unhide HK2) (fun _ _ h => h), own_keep (unhide HI).2.2 (unhide HK2) (fun _ _ h => h)⟩
  have c22 : w2.cell? ⟨B, 22, none⟩ = some vs := (unhide HI2).1.2.2.2.2.2.2.2.2.1
  have hf2 : ∀ o, w2.frozen? ⟨B, o, none⟩ = false := (unhide HI2).1.2.2.2.2.2.2.2.2.2.1
  have hB2 : B < w2.heap.size := (unhide HI2).1.lt
  have hZ : w.heap.size < w2.heap.size := by rw [hw2]; simp
  have HO := hide (unhide HI2).2.2
  have HN : Hid (some B ≠ vs.ownBlock) := fun e => by have := (own_in (unhide HO) B e.symm).1; omega
  obtain ⟨i0, hi, hz0, hz1, hz2'⟩ := info_parts Tryd.info63
  clear hw2 q
  go_region_law ((refine step_append_lies _ (by rfl) _ _ _ (by rfl) (B + 1) 63 i0 _ 5 40 Tryd.underlying35 hi hz0 hz1 hz2' rfl (by omega) vs s.stops.length (snCells s.stops) (by rfl) (own_keep (unhide HO) (S := fun _ => False) (by repeat first | exact Keep.refl _ _ | refine Keep.drew ?_ | refine Keep.alloc ?_ _) (fun _ _ h => h)) ⟨w2.heap.size, 0, none⟩ 1 1 [.int .i64 n, .int .i64 v0, .int .i64 v1, .int .i64 v2, .int .i64 v3] (by rfl) (by rfl) (World.news_of_block (cs := #[.int .i64 n, .int .i64 v0, .int .i64 v1, .int .i64 v2, .int .i64 v3]) (t := 63) (fr := (0, 0)) (heap_alloc_new _ _)) (by simp [Value.oneCell']) (by omega) (by unfold maxLen; omega) (by omega) (by simp; omega) (w2.heap.size + 1) (by simp) ?_; intro g cap w3 hown3 hgrow hat3 hlt3; have HBL := hide (grown_block (a := w2) (by repeat first | exact Keep.refl _ _ | refine Keep.drew ?_ | refine Keep.alloc ?_ _) hgrow (unhide HN) hB2); have b22 : w3.cell? ⟨B, 22, none⟩ = some vs := (World.cell?_of_block (unhide HBL)).trans c22; have bf : w3.frozen? ⟨B, 22, none⟩ = false := (World.frozen?_of_block (unhide HBL)).trans (hf2 22)))
  all_goals go_wp2_with fail
  all_goals go_returns
  all_goals
    rw [← unhide HE0, ← unhide HE1, ← unhide HE2, ← unhide HE3] at hown3
    have hP := see_post (unhide HI2) (unhide HK2) (by repeat first | exact Keep.refl _ _ | refine Keep.drew ?_ | refine Keep.alloc ?_ _) hgrow hown3
    first | exact hP | exact hP.drew | exact hP.drew.drew
end Go.Proofs.YtoepcplbpochpaaDoor
