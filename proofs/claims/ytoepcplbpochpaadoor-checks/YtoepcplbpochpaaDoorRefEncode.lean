/-
  What lodgeref.Encode answers, of every list of ranges: just what leb.Encode answers.
-/
import Derived.Test.YtoepcplbpochpaaDoorRefTable
import Derived.Test.YtoepcplbpochpaaDoorEncode
namespace Go.Proofs.YtoepcplbpochpaaDoor
open Go.RowKit

theorem Tryd.intInfo : (Tryd.prog.info? 3).map (fun i => (i.zero, i.size, i.bytes)) = some (some (.int .i64 0), 1, 8) := by kernel_rfl

/-- A slice that was just laid out is owned. -/
theorem own_new (w : World) (base : Nat) (e : TypeId) (xs : List Value) (hb : base ≤ w.heap.size) (hl : xs.length ≤ maxLen) :
    (w.alloc (.cells xs.toArray e)).ownsRow base e 1 (.slice (some ⟨w.heap.size, 0, none⟩) xs.length xs.length) xs.length xs := by
  refine ⟨by simp, .inr ⟨w.heap.size, xs.length, xs.toArray, rfl, hb, ?_, Nat.le_refl _, hl, by simp, by simp⟩⟩
  exact heap_alloc_new _ _

theorem cells_new (w : World) (n : Nat) (hn : n = w.heap.size) (e : TypeId) (xs : List Value) :
    ∀ j u, xs[j]? = some u → (w.alloc (.cells xs.toArray e)).cell? ((⟨n, 0, none⟩ : Addr).add j) = some u := by
  intro j u hj
  have : (⟨n, 0, none⟩ : Addr).add j = ⟨n, j, none⟩ := by unfold Addr.add; split <;> simp_all
  rw [this, World.cell?_alloc_at (hn := hn)]
  simpa using hj

theorem own_lt {w : World} {base n cap g : Nat} {e : TypeId} {xs : List Value} (h : w.ownsRow base e 1 (.slice (some ⟨g, 0, none⟩) n cap) n xs) : g < w.heap.size := by
  rcases h.2 with ⟨h, _⟩ | ⟨g', cap', cur, h, _, hh, _⟩
  · simp at h
  · simp only [Value.slice.injEq, Option.some.injEq, Addr.mk.injEq, and_true, true_and] at h
    obtain ⟨rfl, rfl⟩ := h
    exact (Array.getElem?_eq_some_iff.1 hh).1

theorem flat_ok {R : List Rg} (h : isTab R = true) : ∀ x ∈ flat R, 0 ≤ x ∧ x ≤ 65535 := by
  intro x hx
  unfold flat at hx
  rw [List.mem_cons, List.mem_flatMap] at hx
  rcases hx with rfl | ⟨r, hr, hx⟩
  · have := isTab_len h; omega
  · obtain ⟨k, hk, rfl⟩ := List.mem_iff_getElem.1 hr
    have e : R[k] = rg R k := by unfold rg; rw [List.getD_eq_getElem?_getD, List.getElem?_eq_getElem hk]; rfl
    rw [e] at hx
    have ok := nums_ok (isTab_rg h hk)
    obtain ⟨i, hi, rfl⟩ := List.mem_iff_getElem.1 hx
    have := ok i hi
    unfold nth at this
    rw [List.getD_eq_getElem?_getD, List.getElem?_eq_getElem hi] at this
    exact this

set_option maxRecDepth 100000 in
set_option maxHeartbeats 1000000 in
theorem refEncode_any (R : List Rg) (ao : Option Addr) (cap : Nat) (w : World) (hH : Held w ao R) (hlen : R.length ≤ 9223372036854775807) :
    Calls Tryd.prog 93 #[.slice ao R.length cap] w fun e w' => e = .returned (encV R) ∧ Below w.heap.size w w' := by
  have T := hide (fun w (h : Held w ao R) => refTable_any R ao cap w h hlen)
  obtain ⟨i0, hi, hz0, hz1, hz2⟩ := info_parts Tryd.intInfo
  cases ht : isTab R
  · rw [encV_no ht]
    rw [ht] at T
    clear ht
    go_enter Tryd.func93, Tryd.ntmps93
    go_wp2_with fail
    refine (unhide T _ hH).mono ?_
    rintro e w1 ⟨rfl, hb1⟩
    go_wp2
    go_ret2
    exact ⟨rfl, hb1⟩
  · rw [encV_yes ht]
    rw [ht] at T
    have HT := hide ht
    have h200 := isTab_len ht
    clear ht
    go_enter Tryd.func93, Tryd.ntmps93
    go_wp2_with fail
    refine (unhide T _ hH).mono ?_
    rintro e w1 ⟨rfl, hb1⟩
    go_wp2_with fail
    go_loopw [5, 6, 7] (fun v i _ wr => ∃ k : Nat, k ≤ R.length ∧ i = .int .i64 k ∧ wr.ownsRow w.heap.size 3 1 v (flatTo R k).length ((flatTo R k).map (Value.int .i64)) ∧ Below w.heap.size w wr) (fun _ i _ _ => R.length - (intOf i).toNat)
    case atStart => exact ⟨0, Nat.zero_le _, rfl, own_new w1 w.heap.size 3 [.int .i64 (R.length : Int)] hb1.size (by show 1 ≤ maxLen; decide), hb1.alloc hb1.size _⟩
    case round =>
      obtain ⟨k, hk, rfl, hown, hbel⟩ := hrel
      have hB := hbel.size
      have hfl := flatTo_len R k
      by_cases hlt : k < R.length
      · have hrg := isTab_rg (unhide HT) hlt
        unfold isRg at hrg
        rw [decide_eq_true_eq] at hrg
        obtain ⟨g1, g2, g3, g4, g5, g6, g7, g8, g9⟩ := hrg
        have HS := hide (flatTo_succ R k hlt)
        obtain ⟨b, off, rfl, hb, hl⟩ : ∃ b off, ao = some ⟨b, off, none⟩ ∧ b < w.heap.size ∧ Lie w b off R := by
          rcases hH with h | h
          · subst h; exact absurd hlt (by simp)
          · exact h
        obtain ⟨c0, c1, c2, c3, c4⟩ := (hl k hlt).below hbel hb
        go_wp2_with (at_builtin; refine wpList_append_own _ rfl _ _ 32 rfl w.heap.size 3 i0 (.int .i64 0) 1 8 Tryd.underlying32 hi hz0 hz1 hz2 rfl (by decide) _ _ _ rfl ((hown.alloc _).alloc _) ⟨wr.heap.size + 1, 0, none⟩ 5 5 [.int .i64 (rg R k).v, .int .i64 (rg R k).f, .int .i64 ((rg R k).t - (rg R k).f), .int .i64 (rg R k).k, .int .i64 (rg R k).a] rfl rfl ?c1 ?c2 ?c3 ?c4 ?c5 ?_)
        case c1 => exact cells_new _ _ (by simp) 3 _
        case c2 => intro u hu; simp only [List.mem_cons, List.not_mem_nil, or_false] at hu; rcases hu with rfl | rfl | rfl | rfl | rfl <;> rfl
        case c3 => unfold maxLen; omega
        case c4 => omega
        case c5 => simp; omega
        intro v' w2 hown' hgrow _
        have hb2 : Below w.heap.size w w2 := ((hbel.alloc hbel.size _).alloc (by simp; omega) _).grown hgrow (by simp; omega) (own_ge hown)
        have hO : w2.ownsRow w.heap.size 3 1 v' (flatTo R (k + 1)).length ((flatTo R (k + 1)).map (Value.int .i64)) := by
          rw [unhide HS, List.length_append, List.map_append]; exact hown'
        clear hgrow hown' hown
        go_wp2
        go_roundw
        case rel => exact ⟨k + 1, by omega, by go_num, hO, hb2⟩
        case measure => simp [intOf]; omega
      · have hk' : k = R.length := by omega
        have e := (show flatTo R k = flat R by rw [hk', flatTo_end])
        rw [e] at hown hfl
        have hl1 : 1 ≤ (flat R).length := by unfold flat; simp
        obtain ⟨g, cap', rfl⟩ : ∃ g cap', u5 = .slice (some ⟨g, 0, none⟩) (flat R).length cap' := by
          rcases hown.2 with ⟨_, h⟩ | ⟨g, cap', cur, h, _⟩
          · omega
          · exact ⟨g, cap', h⟩
        have hW := hide (fun w hb hc => written_any (flat R) g 0 cap' w (by omega) hb hc (fun i hi => by
          have := flat_ok (unhide HT) (flat R)[i] (List.getElem_mem hi)
          unfold nth; rw [List.getD_eq_getElem?_getD, List.getElem?_eq_getElem hi]
          exact ⟨this.1, by have := this.2; simp only [Option.getD_some]; omega⟩))
        have hlt' := own_lt hown
        have hcl : ∀ i, i < (flat R).length → wr.cell? ⟨g, 0 + i, none⟩ = some (.int .i64 (nth (flat R) i)) := fun i hi => by
          rw [Nat.zero_add, hown.cellAt i (by omega)]
          unfold nth; rw [List.getD_eq_getElem?_getD, List.getElem?_map, List.getElem?_eq_getElem hi]; rfl
        have HC := hide hcl
        clear hk' e hown hcl
        go_wp2_with fail
        refine (unhide hW _ hlt' (unhide HC)).mono ?_
        rintro e w2 ⟨rfl, hb2⟩
        go_wp2
        go_ret2
        exact ⟨rfl, hbel.trans (hb2.mono hbel.size)⟩
end Go.Proofs.YtoepcplbpochpaaDoor
