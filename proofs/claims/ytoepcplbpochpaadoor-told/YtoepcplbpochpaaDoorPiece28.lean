/-
  The walk of lodgeref.Decode.
-/
import Derived.Test.YtoepcplbpochpaaDoorPiece27
import Derived.Deep.RegionHeld3
import Derived.Test.YtoepcplbpochpaaDoorPiece19
import Derived.Test.YtoepcplbpochpaaDoorPiece26
import Derived.Test.YtoepcplbpochpaaDoorPiece23
import Derived.Test.YtoepcplbpochpaaDoorPiece22

namespace Go.Proofs.YtoepcplbpochpaaDoor
open Go.RowKit

/-- Numbers that are owned: the value's form, and its cells. -/
theorem own_ints {w : World} {base : Nat} {v : Value} {xs : List Int} (h : w.ownsRow base 3 1 v xs.length (xs.map (Value.int .i64))) :
    ∃ ao cap, v = .slice ao xs.length cap ∧ (0 < xs.length → ∃ g, ao = some ⟨g, 0, none⟩ ∧ g < w.heap.size ∧ ∀ i, i < xs.length → w.cell? ⟨g, i, none⟩ = some (.int .i64 (nth xs i))) := by
  rcases h.2 with ⟨rfl, h0⟩ | ⟨g, cap, cur, rfl, h2, h3, h4, h5, h6, h7⟩
  · exact ⟨none, 0, by rw [h0], fun h => by omega⟩
  · refine ⟨some ⟨g, 0, none⟩, cap, rfl, fun _ => ⟨g, rfl, (Array.getElem?_eq_some_iff.1 h3).1, fun i hi => ?_⟩⟩
    rw [h.cellAt i (by omega)]
    unfold nth; rw [List.getD_eq_getElem?_getD, List.getElem?_map, List.getElem?_eq_getElem hi]; rfl

theorem fine_nth {xs : List Int} (h : ∀ x ∈ xs, Fine x) {i : Nat} (hi : i < xs.length) : Fine (nth xs i) := by
  unfold nth; rw [List.getD_eq_getElem?_getD, List.getElem?_eq_getElem hi]; exact h _ (List.getElem_mem hi)

set_option maxRecDepth 100000 in
set_option maxHeartbeats 2000000 in
theorem refDecode_any (s : ByteArray) (w : World) (hs : s.size ≤ maxLen) : Calls Tryd.prog 60 #[.string s] w fun e w' => DecPost s w e w' := by
  obtain ⟨i0, hi, hz0, hz1, hz2⟩ := info_parts Tryd.intInfo
  have hs0 := hide hs
  unfold maxLen at hs
  go_enter Tryd.func60, Tryd.ntmps60
  go_wp2_with fail
  go_loopw [4, 5] (fun v a wr => ∃ (p : Nat) (xs : List Int), a = .int .i64 p ∧ p ≤ s.size ∧ xs.length ≤ 1002 ∧ (∀ x ∈ xs, Fine x) ∧ s.data.toList = bytesOf xs ++ D s p ∧ wr.ownsRow w.heap.size 3 1 v xs.length (xs.map (Value.int .i64)) ∧ Below w.heap.size w wr) (fun _ a _ => s.size - (intOf a).toNat)
  case atStart => exact ⟨0, [], rfl, Nat.zero_le _, Nat.zero_le _, by simp, rfl, World.ownsRow_nil _ _ _ _, Below.refl _ _⟩
  case round =>
    obtain ⟨p, xs, rfl, hp, hxl, hfine, hread, hown, hbel⟩ := hrel
    have HF := hide hfine
    have HR := hide hread
    have hB := hbel.size
    clear hfine hread
    by_cases hgo : p < s.size ∧ xs.length < 1002
    · obtain ⟨hps, hx1⟩ := hgo
      obtain ⟨ao, cap, hv, hcs⟩ := own_ints hown
      subst hv
      have HCS := hide hcs
      clear hcs
      rcases rgives_or s p (unhide hs0) hp with ⟨x, q, hf, he, hq, C⟩ | ⟨hn, C⟩
      · have hlen : p < q := by
          have := congrArg List.length he
          rw [List.length_append, D_len, D_len] at this
          have h3 : 1 ≤ (encB x).length := by unfold encB; rw [List.length_map, enc_len]; split <;> (try split) <;> omega
          omega
        have hn : Hid (s.data.toList = bytesOf (xs ++ [x]) ++ D s q) := by
          have := unhide HR
          rw [he] at this
          unfold Hid
          rw [this, bytesOf_app, List.append_assoc]; simp [bytesOf_cons, bytesOf_nil]
        have hf2 : Hid (∀ y ∈ xs ++ [x], Fine y) := fun y hy => by
          rw [List.mem_append, List.mem_singleton] at hy
          rcases hy with hy | rfl
          · exact unhide HF y hy
          · exact hf
        have CC := hide C
        clear C hf he
        go_wp2_with fail
        refine (unhide CC _).mono ?_
        rintro e w1 ⟨rfl, hb1⟩
        have hB1 := hb1.size
        have hown1 := own_below hown hb1
        clear hown
        go_wp2_with (at_builtin; refine wpList_append_own _ rfl _ _ 32 rfl w.heap.size 3 i0 (.int .i64 0) 1 8 Tryd.underlying32 hi hz0 hz1 hz2 rfl (by decide) _ _ _ rfl (hown1.alloc _) ⟨w1.heap.size, 0, none⟩ 1 1 [.int .i64 x] rfl rfl ?c1 ?c2 ?c3 ?c4 ?c5 ?_)
        case c1 => exact cells_new _ _ (by simp) 3 _
        case c2 => intro u hu; simp only [List.mem_cons, List.not_mem_nil, or_false] at hu; subst hu; rfl
        case c3 => unfold maxLen; omega
        case c4 => omega
        case c5 => simp; omega
        intro v' w2 hown' hgrow _
        have hb2 : Below w.heap.size w w2 := ((hbel.trans (hb1.mono hbel.size)).alloc (by omega) _).grown hgrow (by simp; omega) (own_ge hown1)
        have hO : w2.ownsRow w.heap.size 3 1 v' (xs ++ [x]).length ((xs ++ [x]).map (Value.int .i64)) := by
          rw [List.length_append, List.map_append]; exact hown'
        clear hgrow hown' hown1
        go_wp2
        go_roundw
        case rel => exact ⟨q, xs ++ [x], rfl, hq, by rw [List.length_append]; show xs.length + 1 ≤ 1002; omega, unhide hf2, unhide hn, hO, hb2⟩
        case measure => simp [intOf]; omega
      · have hno := hide (read_stuck (unhide HF) (unhide HR) hps hn)
        have CC := hide C
        clear C hn
        go_wp2_with fail
        refine (unhide CC _).mono ?_
        rintro e w1 ⟨rfl, hb1⟩
        go_wp2
        go_ret2
        exact ⟨hbel.trans (hb1.mono hbel.size), .inr ⟨unhide hno, rfl⟩⟩
    · have hend : s.size ≤ p ∨ 1002 ≤ xs.length := by omega
      have HE := hide hend
      obtain ⟨wA, hA⟩ : ∃ wA, wA = wr := ⟨_, rfl⟩
      subst hA
      obtain ⟨ao, cap, hv, hcs⟩ := own_ints hown
      subst hv
      have HCS := hide hcs
      clear hcs hgo hown
      obtain ⟨j0, hj, hy0, hy1, hy2⟩ := info_parts Tryd.info132
      by_cases hps : p < s.size
      all_goals
        have hx2 : p < s.size → 1002 ≤ xs.length := fun h => by omega
        clear hend
        first | (have hx3 : 1002 ≤ xs.length := hx2 (by assumption)) | skip
        clear hx2
        go_wp2_with fail
        go_loopw [9, 10] (fun l i wr => ∃ k j : Nat, i = .int .i64 j ∧ Hid (j = 5 * k + 1) ∧ (k = 0 ∨ 5 * k + 1 ≤ xs.length) ∧ wr.ownsRow wA.heap.size 132 5 l k (cellsOf (rgs xs k)) ∧ Below wA.heap.size wA wr) (fun _ i _ => xs.length - (intOf i).toNat)
        case atStart => exact ⟨0, 1, rfl, rfl, .inl rfl, World.ownsRow_nil _ _ _ _, Below.refl _ _⟩
        case round =>
          obtain ⟨k, j, rfl, HJ, hk, hown2, hbel2⟩ := hrel
          have hB2 := hbel2.size
          have hk1 : 5 * k ≤ 1006 := by omega
          have hj1 : j ≤ 1007 := by have := unhide HJ; omega
          by_cases hlt : j + 4 < xs.length
          · obtain ⟨g, rfl, hg, hcell⟩ := unhide HCS (by omega)
            have hcw : ∀ i, i < xs.length → wr.cell? ⟨g, i, none⟩ = some (.int .i64 (nth xs i)) := fun i hi => (hbel2.cell hg).trans (hcell i hi)
            have c0 := hcw j (by omega)
            have c1 := hcw (j + 1) (by omega)
            have c2 := hcw (j + 2) (by omega)
            have c3 := hcw (j + 3) (by omega)
            have c4 := hcw (j + 4) (by omega)
            have HF1 := fine_nth (unhide HF) (show j + 1 < xs.length by omega)
            have HF2 := fine_nth (unhide HF) (show j + 2 < xs.length by omega)
            have a1 : IntKind.i64.wrap ((j : Int) + 1) = (j : Int) + 1 := by rw [IntKind.wrap_i64]; omega
            have a2 : IntKind.i64.wrap ((j : Int) + 2) = (j : Int) + 2 := by rw [IntKind.wrap_i64]; omega
            have a3 : IntKind.i64.wrap ((j : Int) + 3) = (j : Int) + 3 := by rw [IntKind.wrap_i64]; omega
            have a4 : IntKind.i64.wrap ((j : Int) + 4) = (j : Int) + 4 := by rw [IntKind.wrap_i64]; omega
            have a5 : IntKind.i64.wrap (nth xs (j + 1) + nth xs (j + 2)) = nth xs (j + 1) + nth xs (j + 2) := by rw [IntKind.wrap_i64]; have := HF1; have := HF2; unfold Fine at *; omega
            have b0 : (j : Int) < (xs.length : Int) := by omega
            have b1 : (j : Int) + 1 < (xs.length : Int) := by omega
            have b2 : (j : Int) + 2 < (xs.length : Int) := by omega
            have b3 : (j : Int) + 3 < (xs.length : Int) := by omega
            have b4 : (j : Int) + 4 < (xs.length : Int) := by omega
            have d0 : (0 : Int) ≤ (j : Int) := by omega
            have d1 : (0 : Int) ≤ (j : Int) + 1 := by omega
            have d2 : (0 : Int) ≤ (j : Int) + 2 := by omega
            have d3 : (0 : Int) ≤ (j : Int) + 3 := by omega
            have d4 : (0 : Int) ≤ (j : Int) + 4 := by omega
            have t1 : ((j : Int) + 1).toNat = j + 1 := by omega
            have t2 : ((j : Int) + 2).toNat = j + 2 := by omega
            have t3 : ((j : Int) + 3).toNat = j + 3 := by omega
            have t4 : ((j : Int) + 4).toNat = j + 4 := by omega
            have hng : ∀ k, Value.ownBlock u9 = some k → wA.heap.size ≤ k := own_ge hown2
            have hne : some g ≠ Value.ownBlock u9 := fun h => by have := hng g h.symm; omega
            have HN := hide hne
            have HG := hide hng
            clear HF1 HF2 hne hng
            go_wp2_with fail
            go_region_held3 (fun w' => w'.cell? ⟨g, j, none⟩ = some (.int .i64 (nth xs (j))) ∧ w'.cell? ⟨g, j + 1, none⟩ = some (.int .i64 (nth xs (j + 1))) ∧ w'.cell? ⟨g, j + 2, none⟩ = some (.int .i64 (nth xs (j + 2))) ∧ w'.cell? ⟨g, j + 3, none⟩ = some (.int .i64 (nth xs (j + 3))) ∧ w'.cell? ⟨g, j + 4, none⟩ = some (.int .i64 (nth xs (j + 4))))
              (first
                | go_keep
                | (go_split_ands
                   refine ⟨?_, ?_, ?_, ?_, ?_⟩
                   all_goals (rw [hgrow.cell_far _ (by simp; omega) (unhide HN)]; assumption)))
              ((refine step_append_lies _ (by rfl) _ _ _ (by rfl) wA.heap.size 132 j0 _ 5 40 Tryd.underlying93 hj hy0 hy1 hy2 rfl (by omega) u9 k (cellsOf (rgs xs k)) (by rfl) ((hown2.alloc _).drew)
                  ⟨wr.heap.size, 0, none⟩ 1 1 [.int .i64 (nth xs j), .int .i64 (nth xs (j + 1)), .int .i64 (nth xs (j + 1) + nth xs (j + 2)), .int .i64 (nth xs (j + 3)), .int .i64 (nth xs (j + 4))] (by rfl) (by rfl) (World.news_of_block (cs := #[.int .i64 (nth xs j), .int .i64 (nth xs (j + 1)), .int .i64 (nth xs (j + 1) + nth xs (j + 2)), .int .i64 (nth xs (j + 3)), .int .i64 (nth xs (j + 4))]) (t := 132) (fr := (0, 0)) (heap_alloc_new wr _)) (by simp [Value.oneCell'])
                  (by omega) (by unfold maxLen; omega) (by omega) (by simp; omega) (wr.heap.size + 1) (by simp) ?_; intro gg cap2 w2 hown3 hgrow hat hglt))
            have hO : w2.ownsRow wA.heap.size 132 5 (.slice (some ⟨gg, 0, none⟩) (k + 1) cap2) (k + 1) (cellsOf (rgs xs (k + 1))) := by
              have e : rgAt xs k = ⟨nth xs j, nth xs (j + 1), nth xs (j + 1) + nth xs (j + 2), nth xs (j + 3), nth xs (j + 4)⟩ := by rw [unhide HJ]; rfl
              rw [rgs_succ, cellsOf_snoc, e]; exact hown3
            have hb3 : Below wA.heap.size wA w2 := ((hbel2.alloc hbel2.size _).drew).grown hgrow (by simp; omega) (unhide HG)
            clear hown3 hgrow hown2
            go_wp2
            go_roundw
            case rel => exact ⟨k + 1, j + 5, by go_num, (by have := unhide HJ; unfold Hid; omega), .inr (by have := unhide HJ; omega), hO, hb3⟩
            case measure => simp [intOf]; omega
          · have hn5 : 5 * k + 5 ≥ xs.length ∧ 5 * k + 1 ≤ xs.length ∨ k = 0 ∧ xs.length ≤ 5 := by have := unhide HJ; omega
            have HT : Hid (∀ R, TabS s R → rgs xs k = R) := fun R h => rgs_tab (unhide HF) (unhide HR) (unhide HE) hn5 h
            have hown4 : wr.ownsRow wA.heap.size 132 5 u9 (rgs xs k).length (cellsOf (rgs xs k)) := by rw [rgs_len]; exact hown2
            clear hown2
            obtain ⟨ao2, cap2, hv2, hheld, hlen2, _, _⟩ := own_held hown4
            subst hv2
            have T := hide (fun w (h : Held w ao2 (rgs xs k)) => refEncode_any (rgs xs k) ao2 cap2 w h (by unfold maxLen at hlen2; omega))
            have HO := hide hown4
            have HH := hide hheld
            clear hn5 hown4 hheld
            have hbl := hbel.trans (hbel2.mono hbel.size)
            cases ht : isTab (rgs xs k)
            · have hno : Hid (∀ R, ¬ TabS s R) := fun R h => by
                have := h.1; rw [← unhide HT R h, ht] at this; cases this
              rw [encV_no ht] at T
              clear ht
              go_wp2_with fail
              refine (unhide T _ (unhide HH)).mono ?_
              rintro e w1 ⟨rfl, hb1⟩
              go_wp2
              go_ret2
              exact ⟨hbl.trans (hb1.mono hbl.size), .inr ⟨unhide hno, rfl⟩⟩
            · rw [encV_yes ht] at T
              by_cases hq : bytesOf (flat (rgs xs k)) = s.data.toList
              · have hyes : Hid (TabS s (rgs xs k)) := ⟨ht, hq⟩
                have hbe : ((encAll (rgs xs k)).toList == s.toList) = true := by
                  rw [ByteArray.toList_eq, ByteArray.toList_eq]; show (bytesOf (flat (rgs xs k)) == _) = true; rw [hq]; simp
                clear ht hq
                go_wp2_with fail
                refine (unhide T _ (unhide HH)).mono ?_
                rintro e w1 ⟨rfl, hb1⟩
                go_wp2
                go_ret2
                refine ⟨hbl.trans (hb1.mono hbl.size), .inl ⟨_, _, unhide hyes, rfl, ?_⟩⟩
                exact own_weakR (own_below (unhide HO) hb1) hbel.size
              · have hno : Hid (∀ R, ¬ TabS s R) := fun R h => hq (by rw [unhide HT R h]; exact h.2)
                have hbe : ((encAll (rgs xs k)).toList == s.toList) = false := by
                  rw [ByteArray.toList_eq, ByteArray.toList_eq]; show (bytesOf (flat (rgs xs k)) == _) = false; simpa using hq
                clear ht hq
                go_wp2_with fail
                refine (unhide T _ (unhide HH)).mono ?_
                rintro e w1 ⟨rfl, hb1⟩
                go_wp2
                go_ret2
                exact ⟨hbl.trans (hb1.mono hbl.size), .inr ⟨unhide hno, rfl⟩⟩
end Go.Proofs.YtoepcplbpochpaaDoor

/-
  Has a unit a table that may be? What the document's own check (lodgeref.tabled) answers.
-/
namespace Go.Proofs.YtoepcplbpochpaaDoor
open Go.RowKit

theorem refDecode_yes {s : ByteArray} {R : List Rg} (hs : s.size ≤ maxLen) (ht : TabS s R) (w : World) :
    Calls Tryd.prog 60 #[.string s] w fun e w' => ∃ v, e = .returned (.tuple #[v, .int .i64 0]) ∧ w'.ownsRow w.heap.size 132 5 v R.length (cellsOf R) ∧ Below w.heap.size w w' :=
  (refDecode_any s w hs).mono fun e w' h => by
    rcases h with ⟨hb, ⟨R', v, ht', he, ho⟩ | ⟨hn, _⟩⟩
    · obtain rfl := tab_uniq ht ht'; exact ⟨v, he, ho, hb⟩
    · exact absurd ht (hn R)
theorem refDecode_no {s : ByteArray} (hs : s.size ≤ maxLen) (ht : ∀ R, ¬ TabS s R) (w : World) :
    Calls Tryd.prog 60 #[.string s] w fun e w' => e = .returned (.tuple #[.slice none 0 0, .int .i64 14]) ∧ Below w.heap.size w w' :=
  (refDecode_any s w hs).mono fun e w' h => by
    rcases h with ⟨hb, ⟨R', v, ht', he, ho⟩ | ⟨hn, he⟩⟩
    · exact absurd ht' (ht R')
    · exact ⟨he, hb⟩

set_option maxRecDepth 100000 in
set_option maxHeartbeats 4000000 in
theorem tabled_any (K S P V : Int) (n : Nat) (T : ByteArray) (ao : Option Addr) (cap : Nat) (w : World) (hs : T.size ≤ maxLen) :
    Calls Tryd.prog 47 #[.agg #[.int .i64 K, .int .i64 S, .int .i64 P, .int .i64 V, .slice ao n cap, .string T]] w fun e w' =>
      e = .returned (.bool (tabB T K S V n)) ∧ Below w.heap.size w w' := by
  by_cases ht : ∃ R, TabS T R
  case neg =>
    have HF := hide (tabB_no (K := K) (S := S) (V := V) (n := n) (fun h => ht (h.elim fun R h => ⟨R, h.1⟩)))
    have KD := hide (fun w => refDecode_no hs (fun R h => ht ⟨R, h⟩) w)
    clear ht
    go_enter Tryd.func47, Tryd.ntmps47
    go_wp2_with fail
    obtain ⟨w1, hw1, ⟨p0, p1, p2, p3, p4, p5⟩, HB1, hz1⟩ := unit_open w K S P V (.slice ao n cap) T
    rw [← hw1]
    clear hw1
    refine (unhide KD w1).mono ?_
    rintro e w2 ⟨rfl, hb2⟩
    have HB2 : Hid (Below w.heap.size w w2) := (unhide HB1).trans (hb2.mono (Nat.le_of_lt hz1))
    clear hb2
    go_wp2
    go_ret
    exact ⟨ret_bool (unhide HF).symm, unhide HB2⟩
  obtain ⟨R, ht⟩ := ht
  have KD := hide (fun w => refDecode_yes hs ht w)
  have HT := hide ht
  clear ht
  go_enter Tryd.func47, Tryd.ntmps47
  go_wp2_with fail
  obtain ⟨w1, hw1, h6, HB1, hz1⟩ := unit_open w K S P V (.slice ao n cap) T
  have p5 := h6.2.2.2.2.2
  have H6 := hide h6
  rw [← hw1]
  clear hw1 h6
  refine (unhide KD w1).mono ?_
  rintro e w2 ⟨v, rfl, ho, hb2⟩
  have HB2 : Hid (Below w.heap.size w w2) := (unhide HB1).trans (hb2.mono (Nat.le_of_lt hz1))
  have H62 := hide ((unhide H6).below hb2 hz1)
  have hz2 : w.heap.size < w2.heap.size := Nat.lt_of_lt_of_le hz1 hb2.size
  obtain ⟨ao', cap', rfl, hH, hlen, _, _⟩ := own_held ho
  have HH := hide hH
  unfold maxLen at hlen
  clear hb2 ho hH p5 H6 HB1
  go_wp2_with fail
  go_loopw [5] (fun i wr => ∃ k : Nat, k ≤ R.length ∧ i = .int .i64 k ∧ Hid (∀ j, j < k → RgIn K S V n (rg R j)) ∧ Below w2.heap.size w2 wr) (fun i _ => R.length - (intOf i).toNat)
  case atStart => exact ⟨0, Nat.zero_le _, rfl, fun j hj => by omega, Below.refl _ _⟩
  case round =>
    obtain ⟨k, hk, rfl, HC, hbel⟩ := hrel
    have hB := hbel.size
    have HBr : Hid (Below w.heap.size w wr) := (unhide HB2).trans (hbel.mono (by omega))
    by_cases hlt : k < R.length
    case neg =>
      obtain rfl : k = R.length := by omega
      have HF := hide (tabB_yes (K := K) (S := S) (V := V) (n := n) ⟨R, unhide HT, unhide HC⟩)
      clear HC
      go_wp2
      go_ret
      exact ⟨ret_bool (unhide HF).symm, unhide HBr⟩
    obtain ⟨b, off, rfl, hb, hL⟩ : ∃ b off, ao' = some ⟨b, off, none⟩ ∧ b < w2.heap.size ∧ Lie w2 b off R := by
      rcases unhide HH with h | h
      · subst h; exact absurd hlt (by simp)
      · exact h
    obtain ⟨r, hr⟩ : ∃ r, r = rg R k := ⟨_, rfl⟩
    have hA := (hL k hlt).below hbel hb
    rw [← hr] at hA
    obtain ⟨c0, c1, c2, c3, c4⟩ := hA
    obtain ⟨m0, m1, m2, m3, m4, m5⟩ := (unhide H62).below hbel hz2
    have hbr : b < wr.heap.size := by omega
    have h2r : w.heap.size < wr.heap.size := by omega
    have HR := hide hr
    have hYes : Hid (RgIn K S V n r → ∀ j, j < k + 1 → RgIn K S V n (rg R j)) := fun h0 j hj => by
      by_cases e : j = k
      · subst e; rw [← unhide HR]; exact h0
      · exact unhide HC j (by omega)
    have hNo : Hid (rgIn K S V n r = false → tabB T K S V n = false) := fun hf => tabB_no (fun h => by
        obtain ⟨R', h1, h2⟩ := h
        obtain rfl := tab_uniq (unhide HT) h1
        have h3 := h2 k hlt
        rw [← unhide HR] at h3
        rw [rgIn_yes h3] at hf; cases hf)
    clear hr hL
    obtain ⟨v, f, t, kd, a⟩ := r
    have hc := rg_cases K S V n ⟨v, f, t, kd, a⟩
    simp only at hc c0 c1 c2 c3 c4
    rcases hc with ⟨g1, hf⟩ | ⟨g1, g2, hf⟩ | ⟨g1, g2, rfl, g4, hf⟩ | ⟨g1, g2, rfl, g4, hf⟩ | ⟨g1, g2, rfl, g4, hf⟩ | ⟨g1, g2, rfl, g4, hf⟩ | ⟨g1, g2, g3, g4, hf⟩
    · have HF := hide (unhide hNo hf)
      clear hf
      go_wp2
      go_ret
      exact ⟨ret_bool (unhide HF).symm, (unhide HBr).alloc (by omega) _⟩
    · have HF := hide (unhide hNo hf)
      clear hf
      go_wp2
      go_ret
      exact ⟨ret_bool (unhide HF).symm, (unhide HBr).alloc (by omega) _⟩
    · have HF := hide (unhide hNo hf)
      clear hf
      go_wp2
      go_ret
      exact ⟨ret_bool (unhide HF).symm, (unhide HBr).alloc (by omega) _⟩
    · have hnx := hide (unhide hYes (rgIn_true hf))
      clear hf
      go_wp2
      go_roundw
      case rel => exact ⟨k + 1, by omega, by go_num, unhide hnx, hbel.alloc hB _⟩
      case measure => simp [intOf]; omega
    · have HF := hide (unhide hNo hf)
      clear hf
      go_wp2
      go_ret
      exact ⟨ret_bool (unhide HF).symm, (unhide HBr).alloc (by omega) _⟩
    · have hnx := hide (unhide hYes (rgIn_true hf))
      clear hf
      go_wp2
      go_roundw
      case rel => exact ⟨k + 1, by omega, by go_num, unhide hnx, hbel.alloc hB _⟩
      case measure => simp [intOf]; omega
    · have hnx := hide (unhide hYes (rgIn_true hf))
      clear hf
      go_wp2
      go_roundw
      case rel => exact ⟨k + 1, by omega, by go_num, unhide hnx, hbel.alloc hB _⟩
      case measure => simp [intOf]; omega
end Go.Proofs.YtoepcplbpochpaaDoor

/-
  What the document's own check of a unit (lodgeref.CheckUnit) answers: the error and the place.
-/
namespace Go.Proofs.YtoepcplbpochpaaDoor
open Go.RowKit

set_option maxRecDepth 100000 in
set_option maxHeartbeats 4000000 in
theorem checkUnit_good (K S P V : Int) (L : List In4) (T : ByteArray) (ao : Option Addr) (cap : Nat) (w : World) (hH : HeldIns w ao L) (hs : T.size ≤ maxLen) (hu : ¬ UnitBad K S P V L.length) :
    Calls Tryd.prog 14 #[.agg #[.int .i64 K, .int .i64 S, .int .i64 P, .int .i64 V, .slice ao L.length cap, .string T]] w fun e w' =>
      e = .returned (.tuple #[.int .i64 (unitE K S P V L T).1, .int .i64 (unitE K S P V L T).2]) ∧ Below w.heap.size w w' := by
  have he := hide (unitE_good (T := T) hu)
  obtain ⟨g1, g2, g3, g4, g5, g6, g7, g8, g9, g10, g11⟩ := unit_good hu
  obtain ⟨b, off, rfl, hb, hL⟩ : ∃ b off, ao = some ⟨b, off, none⟩ ∧ b < w.heap.size ∧ LieI w b off L := by
    rcases hH with h | h
    · subst h; exact absurd g10 (by simp)
    · exact h
  have KT := hide (fun w => tabled_any K S P V L.length T (some ⟨b, off, none⟩) cap w hs)
  have KC := hide (fun w g (hL : LieI w b off L) (hb : b < w.heap.size) (hg : w.heap[g]? = some (.cells (opsA false) 4 (0, 0))) => coded_any false L b off cap g K 0 S w hL hb hg (by omega) (by omega))
  obtain ⟨e1, he1⟩ : ∃ e, e = (codedE false L K 0 S).1 := ⟨_, rfl⟩
  obtain ⟨e2, he2⟩ : ∃ e, e = (codedE false L K 0 S).2 := ⟨_, rfl⟩
  obtain ⟨tb, htb⟩ : ∃ b, b = tabB T K S V L.length := ⟨_, rfl⟩
  have he' := hide (show unitE K S P V L T = if e1 ≠ 0 then (e1, e2) else if tb = true then (0, 0) else (10, 0) by rw [unhide he, he1, he2, htb])
  rw [← he1, ← he2] at KC
  rw [← htb] at KT
  have HL := hide hL
  clear hu hH hL hs he he1 he2 htb
  go_enter Tryd.func14, Tryd.ntmps14
  go_wp2_with fail
  obtain ⟨w1, hw1, h6, HB1, hz⟩ := unit_open w K S P V (.slice (some ⟨b, off, none⟩) L.length cap) T
  rw [← hw1]
  have H6 := hide h6
  have p0 := h6.1
  have p1 := h6.2.1
  have p4 := h6.2.2.2.2.1
  clear hw1 h6
  go_region_held3 (fun w' => w'.cell? ⟨w.heap.size, 0, none⟩ = some (.int .i64 K) ∧ w'.cell? ⟨w.heap.size, 1, none⟩ = some (.int .i64 S) ∧ w'.cell? ⟨w.heap.size, 4, none⟩ = some (.slice (some ⟨b, off, none⟩) L.length cap)) (simp [*])
    (first
      | (go_at_call 44; refine (ops_any false _).mono ?_; rintro e w2 ⟨rfl, hw2⟩; have hb2 : Below w1.heap.size w1.drew w2 := (by rw [hw2]; exact (Below.refl w1.heap.size w1.drew).alloc (Nat.le_refl _) _); have hs2 : w1.heap.size ≤ w2.heap.size := hb2.size; have hg2 : w2.heap[w1.heap.size]? = some (.cells (opsA false) 4 (0, 0)) := (by rw [hw2]; exact Array.getElem?_push_size); have q0 := (hb2.cell (p := ⟨w.heap.size, 0, none⟩) hz).trans p0; have q1 := (hb2.cell (p := ⟨w.heap.size, 1, none⟩) hz).trans p1; have q4 := (hb2.cell (p := ⟨w.heap.size, 4, none⟩) hz).trans p4; have HB2 : Hid (Below w.heap.size w w2) := hide (((unhide HB1).drew).trans (hb2.mono (Nat.le_of_lt hz))); have HG2 := hide hg2; have HBX := hide ((Below.refl w1.heap.size w1).drew.trans hb2); clear hw2 hb2 hg2)
      | (go_at_call 43; refine (unhide KC _ w1.heap.size ?_ ?_ ?_).mono ?_; exact (unhide HL).below (unhide HB2) hb; exact Nat.lt_of_lt_of_le hb (unhide HB2).size; exact unhide HG2; rintro e w3 ⟨rfl, hb3⟩; have HB3 : Hid (Below w.heap.size w w3) := hide ((unhide HB2).trans (hb3.mono (unhide HB2).size)); have hz3 : w.heap.size < w2.heap.size := Nat.lt_of_lt_of_le hz hs2; have r0 := (hb3.cell (p := ⟨w.heap.size, 0, none⟩) hz3).trans q0; have r1 := (hb3.cell (p := ⟨w.heap.size, 1, none⟩) hz3).trans q1; have r4 := (hb3.cell (p := ⟨w.heap.size, 4, none⟩) hz3).trans q4; have HBY := hide ((unhide HBX).trans (hb3.mono hs2)); clear hb3))
  all_goals
    have h62 := (unhide H6).below (unhide HBY) hz
    obtain ⟨_, _, t2, t3, _, t5⟩ := h62
    have hz4 : w.heap.size < w3.heap.size := Nat.lt_of_lt_of_le hz (unhide HBY).size
    clear HBX HBY HB1 HB2 HG2 H6 HL q0 q1 q4 p0 p1 p4
    by_cases h1 : e1 = 0
    case neg =>
      have h1' : (e1 != 0) = true := by rw [bne_iff_ne]; exact h1
      have he2 := hide (show unitE K S P V L T = (e1, e2) by rw [unhide he', if_pos h1])
      go_wp2_with fail
      go_ret2
      exact ⟨ret2 (by rw [unhide he2]) (by rw [unhide he2]), unhide HB3⟩
    subst h1
    go_wp2_with fail
    refine (unhide KT w3).mono ?_
    rintro e w4 ⟨rfl, hb4⟩
    have HB4 : Hid (Below w.heap.size w w4) := hide ((unhide HB3).trans (hb4.mono (Nat.le_of_lt hz4)))
    clear hb4
    cases tb
    · have he2 := hide (show unitE K S P V L T = (10, 0) by rw [unhide he', if_neg (fun h => h rfl), if_neg (by decide)])
      go_wp2_with fail
      go_ret2
      exact ⟨ret2 (by rw [unhide he2]) (by rw [unhide he2]), unhide HB4⟩
    · have he2 := hide (show unitE K S P V L T = (0, 0) by rw [unhide he', if_neg (fun h => h rfl), if_pos rfl])
      go_wp2_with fail
      go_ret2
      exact ⟨ret2 (by rw [unhide he2]) (by rw [unhide he2]), unhide HB4⟩

set_option maxRecDepth 100000 in
set_option maxHeartbeats 2000000 in
theorem checkUnit_any (K S P V : Int) (L : List In4) (T : ByteArray) (ao : Option Addr) (cap : Nat) (w : World) (hH : HeldIns w ao L) (hn : L.length ≤ 9223372036854775807) (hs : T.size ≤ maxLen) :
    Calls Tryd.prog 14 #[.agg #[.int .i64 K, .int .i64 S, .int .i64 P, .int .i64 V, .slice ao L.length cap, .string T]] w fun e w' =>
      e = .returned (.tuple #[.int .i64 (unitE K S P V L T).1, .int .i64 (unitE K S P V L T).2]) ∧ Below w.heap.size w w' := by
  by_cases hu : UnitBad K S P V L.length
  · have he := hide (unitE_bad (T := T) hu)
    rcases unit_cases hu with h | ⟨g1, h⟩ | ⟨g1, g2, h⟩ | ⟨g1, g2, g3, h⟩ | ⟨g1, g2, g3, g4, h⟩ | ⟨g1, g2, g3, g4, g5, h⟩ | ⟨g1, g2, g3, g4, g5, g6, h⟩ | ⟨g1, g2, g3, g4, g5, g6, g7, h⟩ | ⟨g1, g2, g3, g4, g5, g6, g7, g8, h⟩ | ⟨g1, g2, g3, g4, g5, g6, g7, g8, g9, h⟩ | ⟨g1, g2, g3, g4, g5, g6, g7, g8, g9, g10, h⟩
    all_goals
      clear hu
      go_enter Tryd.func14, Tryd.ntmps14
      go_wp2
      go_ret2
      exact ⟨ret2 (by rw [unhide he]) (by rw [unhide he]), (Below.refl _ _).alloc (Nat.le_refl _) _⟩
  · exact checkUnit_good K S P V L T ao cap w hH hs hu
end Go.Proofs.YtoepcplbpochpaaDoor

/-
  Compile's unit, held against the document: lodgeref.CompileError, lodgelaw.nothing, made.
-/
namespace Go.Proofs.YtoepcplbpochpaaDoor
open Go.RowKit

set_option maxRecDepth 100000 in
set_option maxHeartbeats 4000000 in
theorem compileError_any (P R V K : Int) (L : List In4) (ao : Option Addr) (cap : Nat) (w : World) (hH : HeldIns w ao L) (hn : L.length ≤ 9223372036854775807) :
    Calls Tryd.prog 62 #[.agg #[.int .i64 P, .int .i64 R, .int .i64 V, .slice ao L.length cap], .int .i64 K] w fun e w' => e = .returned (.int .i64 (cmpE P R V K L)) ∧ Below w.heap.size w w' := by
  have KC := hide (fun w (hH : HeldIns w ao L) => checkProg_any P R V L ao cap w hH hn)
  have HE := hide (show cmpE P R V K L = if (progE P R V L).1 ≠ 0 then (progE P R V L).1 else if K < 2 ∨ 16 < K then 15 else 0 from rfl)
  obtain ⟨e1, he1⟩ : ∃ e, e = (progE P R V L).1 := ⟨_, rfl⟩
  obtain ⟨e2, he2⟩ : ∃ e, e = (progE P R V L).2 := ⟨_, rfl⟩
  rw [← he1, ← he2] at KC
  rw [← he1] at HE
  obtain ⟨w1, hw1⟩ : ∃ w1, w1 = w.alloc (.cells #[.int .i64 P, .int .i64 R, .int .i64 V, .slice ao L.length cap] 24) := ⟨_, rfl⟩
  have HP1 : Hid (ProgB w1 w.heap.size P R V (.slice ao L.length cap)) := by rw [hw1]; exact progb_alloc _ _ _ _ _
  have HL1 : Hid (Below w.heap.size w w1) := by rw [hw1]; exact below_alloc _ _
  have HW := hide hw1
  have HH := hide (hH.below' (unhide HL1))
  clear hw1 hH he1 he2
  go_enter Tryd.func62, Tryd.ntmps62
  go_upto_region 1 with fail
  rw [← unhide HW]
  have p0 := (unhide HP1).c0
  have p1 := (unhide HP1).c1
  have p2 := (unhide HP1).c2
  have p3 := (unhide HP1).c3
  go_wp2_with fail
  refine (unhide KC w1 (unhide HH)).mono ?_
  rintro _ w2 ⟨rfl, hb2⟩
  have HL2 : Hid (Below w.heap.size w w2) := (unhide HL1).trans (hb2.mono (unhide HL1).size)
  clear hb2 p0 p1 p2 p3 HP1 HL1 KC HW HH
  by_cases h1 : e1 = 0
  case neg =>
    have g1 : (e1 != 0) = true := by rw [bne_iff_ne]; exact h1
    have HR := hide (show cmpE P R V K L = e1 by rw [unhide HE, if_pos h1])
    clear h1
    go_wp2_with fail
    go_returns
    exact ⟨ret_int (by rw [unhide HR]), unhide HL2⟩
  subst h1
  by_cases h2 : K < 2
  · have HR := hide (show cmpE P R V K L = 15 by rw [unhide HE, if_neg (fun h => h rfl), if_pos (.inl h2)])
    go_wp2_with fail
    go_returns
    exact ⟨ret_int (by rw [unhide HR]), unhide HL2⟩
  · by_cases h3 : 16 < K
    · have HR := hide (show cmpE P R V K L = 15 by rw [unhide HE, if_neg (fun h => h rfl), if_pos (.inr h3)])
      go_wp2_with fail
      go_returns
      exact ⟨ret_int (by rw [unhide HR]), unhide HL2⟩
    · have HR := hide (show cmpE P R V K L = 0 by rw [unhide HE, if_neg (fun h => h rfl), if_neg (by omega)])
      go_wp2_with fail
      go_returns
      exact ⟨ret_int (by rw [unhide HR]), unhide HL2⟩

set_option maxRecDepth 100000 in
set_option maxHeartbeats 4000000 in
theorem nothing_any (w : World) : Calls Tryd.prog 63 #[.agg #[.int .i64 0, .int .i64 0, .int .i64 0, .int .i64 0, .slice none 0 0, .string ⟨#[]⟩]] w fun e w' => e = .returned (.bool true) ∧ Below w.heap.size w w' := by
  go_enter Tryd.func63, Tryd.ntmps63
  go_wp2_with fail
  go_returns
  exact ⟨rfl, (Below.refl _ _).alloc (Nat.le_refl _) _⟩

theorem results_unit3 {fn : Func} {p q r : Tmp} (h : fn.results = #[.cell p 26, .tmp q, .tmp r]) (tmps : Array Value) (w : World) (g : Nat) (cs : Array Value) (hp : tmps.getD p undef = .pointer (some ⟨g, 0, none⟩)) (hg : w.heap[g]? = some (.cells cs 26 (0, 0))) (hn : cs.size = 6) :
    (results fn tmps).run Tryd.prog w = .ok (.tuple #[.agg cs, tmps.getD q undef, tmps.getD r undef]) w := by
  have hp' : tmps[p]?.getD undef = .pointer (some ⟨g, 0, none⟩) := by simpa using hp
  simp [results, h, hp', asAddr, run_loadVar_row w g 26 26 cs (0, 0) _ hg Tryd.underlying26 rfl (by rw [hn]; exact Tryd.size26)]

set_option maxRecDepth 100000 in
set_option maxHeartbeats 8000000 in
theorem made_bad (P R V K : Int) (L : List In4) (ac : Option Addr) (cc : Nat) (w : World) (hH : HeldIns w ac L) (hn : L.length ≤ 9223372036854775807) (hT : Tab w) (hw0 : 0 < w.heap.size) (hE : cmpE P R V K L ≠ 0) :
    Calls Tryd.prog 25 #[.agg #[.int .i64 P, .int .i64 R, .int .i64 V, .slice ac L.length cc], .int .i64 K] w fun e w' => e = .returned (.tuple #[zUnit, .int .i64 (cmpE P R V K L), .bool true]) ∧ Below w.heap.size w w' := by
  have KC := hide (fun w (hH : HeldIns w ac L) (hT : Tab w) (hw0 : 0 < w.heap.size) => compile_wrong P R V K L ac cc w hH hn hT hw0 hE)
  have KE := hide (fun w (hH : HeldIns w ac L) => compileError_any P R V K L ac cc w hH hn)
  obtain ⟨x, hx⟩ : ∃ x, x = cmpE P R V K L := ⟨_, rfl⟩
  rw [← hx] at KC KE hE
  rw [← hx]
  unfold zUnit at KC ⊢
  have hne : (x != 0) = true := by rw [bne_iff_ne]; exact hE
  obtain ⟨w1, hw1, HP1, HR1, HL1, hz1⟩ := open_cmp w P R V (.slice ac L.length cc)
  have HW := hide hw1
  have HH := hide hH
  have HT := hide hT
  clear hw1 hH hT hE hx
  go_enter Tryd.func25, Tryd.ntmps25
  go_upto_region 1 with fail
  rw [← unhide HW]
  have p0 := (unhide HP1).c0
  have p1 := (unhide HP1).c1
  have p2 := (unhide HP1).c2
  have p3 := (unhide HP1).c3
  go_wp2_with fail
  refine (unhide KC w1 ((unhide HH).below' (unhide HL1)) ((unhide HT).below (unhide HL1) hw0) (by omega)).mono ?_
  rintro _ w2 ⟨rfl, hb2⟩
  clear p0 p1 p2 p3 KC
  have hz2 := hb2.size
  obtain ⟨w3, hw3⟩ : ∃ w3, w3 = w2.alloc (.cells #[.int .i64 0, .int .i64 0, .int .i64 0, .int .i64 0, .slice none 0 0, .string ⟨#[]⟩] 26) := ⟨_, rfl⟩
  have hb3 : Below w2.heap.size w2 w3 := by rw [hw3]; exact below_alloc _ _
  have HU3 : Hid (UnB w3 w2.heap.size 0 0 0 0 (.slice none 0 0) ⟨#[]⟩) := by rw [hw3]; exact heap_alloc_new _ _
  have hz3 : w2.heap.size < w3.heap.size := by rw [hw3]; simp
  have hb13 : Below w1.heap.size w1 w3 := hb2.trans (hb3.mono hz2)
  have HP3 := hide ((unhide HP1).keep (Keep.of_below hb13 (fun _ => False)) (fun h => h))
  have HR3 := hide ((hb13.block (w.heap.size + 1) hz1).trans (unhide HR1))
  have HL3 : Hid (Below w.heap.size w w3) := (unhide HL1).trans (hb13.mono (unhide HL1).size)
  have HW3 := hide hw3
  clear hb2 hb3 hb13 hw3 HP1 HR1 HL1 HW
  go_upto_region 2 with fail
  rw [← unhide HW3]
  have p0 := (unhide HP3).c0
  have p1 := (unhide HP3).c1
  have p2 := (unhide HP3).c2
  have p3 := (unhide HP3).c3
  go_wp2_with fail
  refine (unhide KE w3 ((unhide HH).below' (unhide HL3))).mono ?_
  rintro _ w4 ⟨rfl, hb4⟩
  clear p0 p1 p2 p3 KE HW3
  have HR4 := hide ((hb4.block (w.heap.size + 1) (by omega)).trans (unhide HR3))
  have HL4 : Hid (Below w.heap.size w w4) := (unhide HL3).trans (hb4.mono (unhide HL3).size)
  have HU4 := hide ((unhide HU3).below hb4 hz3)
  have hz4 := hb4.size
  clear hb4 HP3 HR3 HL3 HU3
  have u0 := (unhide HU4).c0
  have u1 := (unhide HU4).c1
  have u2 := (unhide HU4).c2
  have u3 := (unhide HU4).c3
  have u4 := (unhide HU4).c4
  have u5 := (unhide HU4).c5
  go_wp2_with fail
  refine (nothing_any w4).mono ?_
  rintro _ w5 ⟨rfl, hb5⟩
  clear u0 u1 u2 u3 u4 u5
  have HR5 := hide ((hb5.block (w.heap.size + 1) (by omega)).trans (unhide HR4))
  have HL5 : Hid (Below w.heap.size w w5) := (unhide HL4).trans (hb5.mono (unhide HL4).size)
  have HU5 := hide ((unhide HU4).below hb5 (by omega))
  clear hb5 HR4 HL4 HU4
  have u0 := (unhide HU5).c0
  have u1 := (unhide HU5).c1
  have u2 := (unhide HU5).c2
  have u3 := (unhide HU5).c3
  have u4 := (unhide HU5).c4
  have u5 := (unhide HU5).c5
  have r0 : w5.cell? ⟨w.heap.size + 1, 0, none⟩ = some (.int .i64 0) := (cell_of_row w5 _ 0 _ 26 (0, 0) (unhide HR5)).trans rfl
  have r1 : w5.cell? ⟨w.heap.size + 1, 1, none⟩ = some (.int .i64 0) := (cell_of_row w5 _ 1 _ 26 (0, 0) (unhide HR5)).trans rfl
  have r2 : w5.cell? ⟨w.heap.size + 1, 2, none⟩ = some (.int .i64 0) := (cell_of_row w5 _ 2 _ 26 (0, 0) (unhide HR5)).trans rfl
  have r3 : w5.cell? ⟨w.heap.size + 1, 3, none⟩ = some (.int .i64 0) := (cell_of_row w5 _ 3 _ 26 (0, 0) (unhide HR5)).trans rfl
  have r4 : w5.cell? ⟨w.heap.size + 1, 4, none⟩ = some (.slice none 0 0) := (cell_of_row w5 _ 4 _ 26 (0, 0) (unhide HR5)).trans rfl
  have r5 : w5.cell? ⟨w.heap.size + 1, 5, none⟩ = some (.string ⟨#[]⟩) := (cell_of_row w5 _ 5 _ 26 (0, 0) (unhide HR5)).trans rfl
  have rf : ∀ o, w5.frozen? ⟨w.heap.size + 1, o, none⟩ = false := fun o => by have h := unhide HR5; simp [World.frozen?, h]
  go_wp2_with fail
  refine bodyPost_ret (results_unit3 rfl _ _ (w.heap.size + 1) _ rfl (set6 (unhide HR5) _ _ _ _ _ _) rfl) rfl ?_
  exact ⟨rfl, below6 (unhide HL5) (by omega) _ _ _ _ _ _⟩

/-- What made leaves behind, where there is a unit. -/
def MadePost (w : World) (P R V K : Nat) (L : List In4) (e : Ending) (w' : World) : Prop :=
  ∃ ao cap, e = .returned (.tuple #[unitV P R V K L ao cap, .int .i64 0, .bool true]) ∧ w'.ownsRow w.heap.size 77 4 (.slice ao (cmpC P R K L).length cap) (cmpC P R K L).length (insCells (cmpC P R K L)) ∧ Below w.heap.size w w'

set_option maxRecDepth 100000 in
set_option maxHeartbeats 8000000 in
theorem made_good (P R V K : Nat) (L : List In4) (ac : Option Addr) (cc : Nat) (w : World) (hp : RightP P R V L) (hK : 2 ≤ K) (hK' : K ≤ 16) (hH : HeldIns w ac L) (hT : Tab w) (hw0 : 0 < w.heap.size) :
    Calls Tryd.prog 25 #[.agg #[.int .i64 P, .int .i64 R, .int .i64 V, .slice ac L.length cc], .int .i64 K] w (MadePost w P R V K L) := by
  have hE := prog_zero hp
  have hU := unit_ok hp hK hK'
  have hp4 := hp.p4
  have hn40 := hp.n40
  have hr12 := hp.r12
  have hTs : (encT (cmpR P R V K L)).size ≤ maxLen := Nat.le_trans (tab_size hU.2) (by unfold maxLen; omega)
  have hCl : (cmpC P R K L).length ≤ 4 * L.length + 4 := by
    rw [cmpC_len]
    have := wTo_len (homS L R K) (homA L R K) K (liveB L 0) P L L.length
    unfold cmpQ; omega
  have hSl : slotsB L P R K ≤ P + R := by have := (slots_bound L P R K (by have := hp.pr; omega)).2; omega
  have hE0 : cmpE P R V K L = 0 := by unfold cmpE; rw [hE, if_neg (fun h => h rfl), if_neg (by omega)]
  have KC := hide (fun w (hH : HeldIns w ac L) (hT : Tab w) (hw0 : 0 < w.heap.size) => compile_right P R V K L ac cc w hH hT hw0 (by rw [hE]) hK hK')
  have KE := hide (fun w (hH : HeldIns w ac L) => compileError_any P R V K L ac cc w hH (by omega))
  have KM := hide (fun (uo : Option Addr) (uc : Nat) w (hH : HeldIns w uo (cmpC P R K L)) => checkUnit_any K (slotsB L P R K) P V (cmpC P R K L) (encT (cmpR P R V K L)) uo uc w hH (by omega) hTs)
  rw [hE0] at KE
  rw [hU.1] at KM
  unfold MadePost unitV
  unfold CmpPost at KC
  obtain ⟨T, hTe⟩ : ∃ T, T = encT (cmpR P R V K L) := ⟨_, rfl⟩
  obtain ⟨S, hSe⟩ : ∃ S, S = slotsB L P R K := ⟨_, rfl⟩
  obtain ⟨C, hCe⟩ : ∃ C, C = cmpC P R K L := ⟨_, rfl⟩
  rw [← hTe, ← hSe, ← hCe] at KC KM
  rw [← hTe, ← hSe, ← hCe]
  rw [← hCe] at hCl
  rw [← hSe] at hSl
  clear hTe hSe hCe hTs hE hU hE0 hp
  obtain ⟨w1, hw1, HP1, HR1, HL1, hz1⟩ := open_cmp w P R V (.slice ac L.length cc)
  have HW := hide hw1
  have HH := hide hH
  have HT := hide hT
  clear hw1 hH hT
  go_enter Tryd.func25, Tryd.ntmps25
  go_upto_region 1 with fail
  rw [← unhide HW]
  have p0 := (unhide HP1).c0
  have p1 := (unhide HP1).c1
  have p2 := (unhide HP1).c2
  have p3 := (unhide HP1).c3
  go_wp2_with fail
  refine (unhide KC w1 ((unhide HH).below' (unhide HL1)) ((unhide HT).below (unhide HL1) hw0) (by omega)).mono ?_
  rintro _ w2 ⟨uo, uc, rfl, hown, hb2⟩
  clear p0 p1 p2 p3 KC
  have hz2 := hb2.size
  obtain ⟨w3, hw3⟩ : ∃ w3, w3 = w2.alloc (.cells #[.int .i64 K, .int .i64 S, .int .i64 P, .int .i64 V, .slice uo C.length uc, .string T] 26) := ⟨_, rfl⟩
  have hb3 : Below w2.heap.size w2 w3 := by rw [hw3]; exact below_alloc _ _
  have HU3 : Hid (UnB w3 w2.heap.size K S P V (.slice uo C.length uc) T) := by rw [hw3]; exact heap_alloc_new _ _
  have hz3 : w2.heap.size < w3.heap.size := by rw [hw3]; simp
  have hb13 : Below w1.heap.size w1 w3 := hb2.trans (hb3.mono hz2)
  have HP3 := hide ((unhide HP1).keep (Keep.of_below hb13 (fun _ => False)) (fun h => h))
  have HR3 := hide ((hb13.block (w.heap.size + 1) hz1).trans (unhide HR1))
  have HL3 : Hid (Below w.heap.size w w3) := (unhide HL1).trans (hb13.mono (unhide HL1).size)
  have HO3 := hide (own_keep hown (Keep.of_below hb3 (fun _ => False)) (fun _ _ h => h))
  have HW3 := hide hw3
  clear hb2 hb3 hb13 hw3 HP1 HR1 HL1 HW hown
  go_upto_region 2 with fail
  rw [← unhide HW3]
  have p0 := (unhide HP3).c0
  have p1 := (unhide HP3).c1
  have p2 := (unhide HP3).c2
  have p3 := (unhide HP3).c3
  go_wp2_with fail
  refine (unhide KE w3 ((unhide HH).below' (unhide HL3))).mono ?_
  rintro _ w4 ⟨rfl, hb4⟩
  clear p0 p1 p2 p3 KE HW3
  have hz4 := hb4.size
  have HP4 := hide ((unhide HP3).keep (Keep.of_below hb4 (fun _ => False)) (fun h => h))
  have HR4 := hide ((hb4.block (w.heap.size + 1) (by omega)).trans (unhide HR3))
  have HL4 : Hid (Below w.heap.size w w4) := (unhide HL3).trans (hb4.mono (unhide HL3).size)
  have HU4 := hide ((unhide HU3).below hb4 hz3)
  have HO4 := hide (own_keep (unhide HO3) (Keep.of_below hb4 (fun _ => False)) (fun _ _ h => h))
  clear hb4 HP3 HR3 HL3 HU3 HO3
  have u0 := (unhide HU4).c0
  have u1 := (unhide HU4).c1
  have u2 := (unhide HU4).c2
  have u3 := (unhide HU4).c3
  have u4 := (unhide HU4).c4
  have u5 := (unhide HU4).c5
  go_wp2_with fail
  refine (unhide KM uo uc w4 (held_own (unhide HO4))).mono ?_
  rintro _ w5 ⟨rfl, hb5⟩
  clear u0 u1 u2 u3 u4 u5 KM
  have hz5 := hb5.size
  have HP5 := hide ((unhide HP4).keep (Keep.of_below hb5 (fun _ => False)) (fun h => h))
  have HR5 := hide ((hb5.block (w.heap.size + 1) (by omega)).trans (unhide HR4))
  have HL5 : Hid (Below w.heap.size w w5) := (unhide HL4).trans (hb5.mono (unhide HL4).size)
  have HU5 := hide ((unhide HU4).below hb5 (by omega))
  have HO5 := hide (own_keep (unhide HO4) (Keep.of_below hb5 (fun _ => False)) (fun _ _ h => h))
  clear hb5 HP4 HR4 HL4 HU4 HO4
  have u0 := (unhide HU5).c0
  have u1 := (unhide HU5).c1
  have u2 := (unhide HU5).c2
  have u3 := (unhide HU5).c3
  have u4 := (unhide HU5).c4
  have u5 := (unhide HU5).c5
  have p0 := (unhide HP5).c0
  have p1 := (unhide HP5).c1
  have p2 := (unhide HP5).c2
  have p3 := (unhide HP5).c3
  have hPR : IntKind.i64.wrap ((P : Int) + (R : Int)) = (P : Int) + (R : Int) := by rw [IntKind.wrap_i64]; omega
  have hS1 : ¬ ((S : Int) > (P : Int) + (R : Int)) := by omega
  go_upto_region 11 with fail
  have r0 : w5.cell? ⟨w.heap.size + 1, 0, none⟩ = some (.int .i64 0) := (cell_of_row w5 _ 0 _ 26 (0, 0) (unhide HR5)).trans rfl
  have r1 : w5.cell? ⟨w.heap.size + 1, 1, none⟩ = some (.int .i64 0) := (cell_of_row w5 _ 1 _ 26 (0, 0) (unhide HR5)).trans rfl
  have r2 : w5.cell? ⟨w.heap.size + 1, 2, none⟩ = some (.int .i64 0) := (cell_of_row w5 _ 2 _ 26 (0, 0) (unhide HR5)).trans rfl
  have r3 : w5.cell? ⟨w.heap.size + 1, 3, none⟩ = some (.int .i64 0) := (cell_of_row w5 _ 3 _ 26 (0, 0) (unhide HR5)).trans rfl
  have r4 : w5.cell? ⟨w.heap.size + 1, 4, none⟩ = some (.slice none 0 0) := (cell_of_row w5 _ 4 _ 26 (0, 0) (unhide HR5)).trans rfl
  have r5 : w5.cell? ⟨w.heap.size + 1, 5, none⟩ = some (.string ⟨#[]⟩) := (cell_of_row w5 _ 5 _ 26 (0, 0) (unhide HR5)).trans rfl
  have rf : ∀ o, w5.frozen? ⟨w.heap.size + 1, o, none⟩ = false := fun o => by have h := unhide HR5; simp [World.frozen?, h]
  have h4n : IntKind.i64.wrap (4 * (L.length : Int)) = 4 * (L.length : Int) := by rw [IntKind.wrap_i64]; omega
  have h4n' : IntKind.i64.wrap (4 * (L.length : Int) + 4) = 4 * (L.length : Int) + 4 := by rw [IntKind.wrap_i64]; omega
  have hle : (C.length : Int) ≤ 4 * (L.length : Int) + 4 := by omega
  have hk0 : ∀ (wq : World) (j o : Nat) (z : Value), (wq.setCell ⟨w.heap.size + 1, j, none⟩ z).cell? ⟨w2.heap.size, o, none⟩ = wq.cell? ⟨w2.heap.size, o, none⟩ := fun wq j o z => World.cell?_setCell_other _ _ _ _ (fun e => by injection e with e1; omega)
  have hk1 : ∀ (wq : World) (j o : Nat) (z : Value), (wq.setCell ⟨w.heap.size + 1, j, none⟩ z).cell? ⟨w.heap.size, o, none⟩ = wq.cell? ⟨w.heap.size, o, none⟩ := fun wq j o z => World.cell?_setCell_other _ _ _ _ (fun e => by injection e with e1; omega)
  clear p0 p1 p2
  go_region_held3 (fun w' => w'.cell? ⟨w2.heap.size, 0, none⟩ = some (.int .i64 (K : Int)) ∧ w'.cell? ⟨w2.heap.size, 1, none⟩ = some (.int .i64 (S : Int)) ∧ w'.cell? ⟨w2.heap.size, 2, none⟩ = some (.int .i64 (P : Int)) ∧ w'.cell? ⟨w2.heap.size, 3, none⟩ = some (.int .i64 (V : Int)) ∧ w'.cell? ⟨w2.heap.size, 4, none⟩ = some (.slice uo C.length uc) ∧ w'.cell? ⟨w2.heap.size, 5, none⟩ = some (.string T) ∧ w'.cell? ⟨w.heap.size, 3, none⟩ = some (.slice ac L.length cc)) (first | go_keep | (simp [*]; done) | assumption) (fail)
  clear hk0 hk1 u0 u1 u2 u3 u4 u5 p3
  obtain ⟨wf, hwf⟩ : ∃ wf, wf = ((((((w5.setCell ⟨w.heap.size + 1, 0, none⟩ (.int .i64 K)).setCell ⟨w.heap.size + 1, 1, none⟩ (.int .i64 S)).setCell ⟨w.heap.size + 1, 2, none⟩ (.int .i64 P)).setCell ⟨w.heap.size + 1, 3, none⟩ (.int .i64 V)).setCell ⟨w.heap.size + 1, 4, none⟩ (.slice uo C.length uc)).setCell ⟨w.heap.size + 1, 5, none⟩ (.string T)).drew := ⟨_, rfl⟩
  have hkk : Keep (fun k => k = w.heap.size + 1) w5 wf := by rw [hwf]; exact (keep6 w5 (w.heap.size + 1) _ _ _ _ _ _).drew
  have HRF : Hid (wf.heap[w.heap.size + 1]? = some (.cells #[.int .i64 K, .int .i64 S, .int .i64 P, .int .i64 V, .slice uo C.length uc, .string T] 26 (0, 0))) := by rw [hwf]; exact (drew_block _ _).trans (set6 (unhide HR5) _ _ _ _ _ _)
  have HFIN := hide (And.intro (own_keep (own_weakR (unhide HO5) (show w.heap.size ≤ w1.heap.size by omega)) hkk (fun g hg e => by have := (own_in (unhide HO5) g hg).1; omega)) ((unhide HL5).trans (hkk.below (unhide HL5).size (fun k hk e => by omega))))
  rw [← hwf]
  clear hkk hwf
  go_wp2_with fail
  refine bodyPost_ret (results_unit3 rfl _ _ (w.heap.size + 1) _ rfl (unhide HRF) rfl) rfl ?_
  exact ⟨uo, uc, rfl, (unhide HFIN).1, (unhide HFIN).2⟩
end Go.Proofs.YtoepcplbpochpaaDoor

/-
  What lodgelaw.pick answers.
-/
namespace Go.Proofs.YtoepcplbpochpaaDoor
open Go.RowKit

set_option maxRecDepth 100000 in
set_option maxHeartbeats 2000000 in
theorem lawPick_any (c n : Int) (w : World) (h0 : -9223372036854775808 ≤ c) (h1 : c ≤ 9223372036854775807) (h2 : 0 < n) :
    Calls Tryd.prog 31 #[.int .i64 c, .int .i64 n] w fun e w' => e = .returned (.int .i64 (pickI c n)) ∧ w' = w := by
  have hnz : (n == 0) = false := by simp; omega
  unfold pickI
  by_cases h : c < 0
  · have e : (-(c + 1)) % n = -((c + 1).tmod n) := by rw [← Int.neg_tmod, Int.tmod_eq_emod_of_nonneg (by omega)]
    rw [if_pos h, e]
    clear e
    go_enter Tryd.func31, Tryd.ntmps31
    go_wp2
    go_ret
    exact ⟨by rfl, rfl⟩
  · rw [if_neg h]
    go_enter Tryd.func31, Tryd.ntmps31
    go_wp2
    go_ret
    exact ⟨by rfl, rfl⟩
end Go.Proofs.YtoepcplbpochpaaDoor
