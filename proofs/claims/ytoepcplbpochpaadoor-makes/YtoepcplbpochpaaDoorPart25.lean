/-
  The walk of lodgeref.Decode.
-/
import Derived.Test.YtoepcplbpochpaaDoorPart24
import Derived.Deep.RegionHeld3
import Derived.Test.YtoepcplbpochpaaDoorPart19
import Derived.Test.YtoepcplbpochpaaDoorPart20
import Derived.Handy

namespace Go.Proofs.YtoepcplbpochpaaDoor
open Go.RowKit

/-- Numbers that are owned: the value's form, and its cells. -/
theorem own_ints {w : World} {base : Nat} {v : Value} {xs : List Int} (h : w.ownsRow base 3 1 v xs.length (xs.map (Value.int .i64))) :
    ∃ ao cap, v = .slice ao xs.length cap ∧ (0 < xs.length → ∃ g, ao = some ⟨g, 0, none⟩ ∧ g < w.heap.size ∧ ∀ i, i < xs.length → w.cell? ⟨g, i, none⟩ = some (.int .i64 (nth xs i))) := by
  rcases h.2 with ⟨rfl, h0⟩ | ⟨g, cap, cur, rfl, h2, h3, h4, h5, h6, h7⟩
  · exact ⟨none, 0, by rw [h0], fun h => by omega⟩
  · refine ⟨some ⟨g, 0, none⟩, cap, rfl, fun _ => ⟨g, rfl, (Array.getElem?_eq_some_iff.1 h3).1, fun i hi => ?_⟩⟩
    rw [h.cellAt i (by omega)]
    unfold nth; rw [List.getD_eq_getElem?_getD, List.getElem?_map, List.getElem?_eq_getElem hi]; rfl

theorem fine_nth {xs : List Int} (h : ∀ x ∈ xs, Fine x) {i : Nat} (hi : i < xs.length) : Fine (nth xs i) := by
  unfold nth; rw [List.getD_eq_getElem?_getD, List.getElem?_eq_getElem hi]; exact h _ (List.getElem_mem hi)

set_option maxRecDepth 100000 in
set_option maxHeartbeats 2000000 in
theorem refDecode_any (s : ByteArray) (w : World) (hs : s.size ≤ maxLen) : Calls Tryd.prog 60 #[.string s] w fun e w' => DecPost s w e w' := by
  obtain ⟨i0, hi, hz0, hz1, hz2⟩ := info_parts Tryd.intInfo
  have hs0 := hide hs
  unfold maxLen at hs
  go_enter Tryd.func60, Tryd.ntmps60
  go_wp2_with fail
  go_loopw [4, 5] (fun v a wr => ∃ (p : Nat) (xs : List Int), a = .int .i64 p ∧ p ≤ s.size ∧ xs.length ≤ 1002 ∧ (∀ x ∈ xs, Fine x) ∧ s.data.toList = bytesOf xs ++ D s p ∧ wr.ownsRow w.heap.size 3 1 v xs.length (xs.map (Value.int .i64)) ∧ Below w.heap.size w wr) (fun _ a _ => s.size - (intOf a).toNat)
  case atStart => exact ⟨0, [], rfl, Nat.zero_le _, Nat.zero_le _, by simp, rfl, World.ownsRow_nil _ _ _ _, Below.refl _ _⟩
  case round =>
    obtain ⟨p, xs, rfl, hp, hxl, hfine, hread, hown, hbel⟩ := hrel
    have HF := hide hfine
    have HR := hide hread
    have hB := hbel.size
    clear hfine hread
    by_cases hgo : p < s.size ∧ xs.length < 1002
    · obtain ⟨hps, hx1⟩ := hgo
      obtain ⟨ao, cap, hv, hcs⟩ := own_ints hown
      subst hv
      have HCS := hide hcs
      clear hcs
      rcases rgives_or s p (unhide hs0) hp with ⟨x, q, hf, he, hq, C⟩ | ⟨hn, C⟩
      · have hlen : p < q := by
          have := congrArg List.length he
          rw [List.length_append, D_len, D_len] at this
          have h3 : 1 ≤ (encB x).length := by unfold encB; rw [List.length_map, enc_len]; split <;> (try split) <;> omega
          omega
        have hn : Hid (s.data.toList = bytesOf (xs ++ [x]) ++ D s q) := by
          have := unhide HR
          rw [he] at this
          unfold Hid
          rw [this, bytesOf_app, List.append_assoc]; simp [bytesOf_cons, bytesOf_nil]
        have hf2 : Hid (∀ y ∈ xs ++ [x], Fine y) := fun y hy => by
          rw [List.mem_append, List.mem_singleton] at hy
          rcases hy with hy | rfl
          · exact unhide HF y hy
          · exact hf
        have CC := hide C
        clear C hf he
        go_wp2_with fail
        refine (unhide CC _).mono ?_
        rintro e w1 ⟨rfl, hb1⟩
        have hB1 := hb1.size
        have hown1 := own_below hown hb1
        clear hown
        go_wp2_with (at_builtin; refine wpList_append_own _ rfl _ _ 32 rfl w.heap.size 3 i0 (.int .i64 0) 1 8 Tryd.underlying32 hi hz0 hz1 hz2 rfl (by decide) _ _ _ rfl (hown1.alloc _) ⟨w1.heap.size, 0, none⟩ 1 1 [.int .i64 x] rfl rfl ?c1 ?c2 ?c3 ?c4 ?c5 ?_)
        case c1 => exact cells_new _ _ (by simp) 3 _
        case c2 => intro u hu; simp only [List.mem_cons, List.not_mem_nil, or_false] at hu; subst hu; rfl
        case c3 => unfold maxLen; omega
        case c4 => omega
        case c5 => simp; omega
        intro v' w2 hown' hgrow _
        have hb2 : Below w.heap.size w w2 := ((hbel.trans (hb1.mono hbel.size)).alloc (by omega) _).grown hgrow (by simp; omega) (own_ge hown1)
        have hO : w2.ownsRow w.heap.size 3 1 v' (xs ++ [x]).length ((xs ++ [x]).map (Value.int .i64)) := by
          rw [List.length_append, List.map_append]; exact hown'
        clear hgrow hown' hown1
        go_wp2
        go_roundw
        case rel => exact ⟨q, xs ++ [x], rfl, hq, by rw [List.length_append]; show xs.length + 1 ≤ 1002; omega, unhide hf2, unhide hn, hO, hb2⟩
        case measure => simp [intOf]; omega
      · have hno := hide (read_stuck (unhide HF) (unhide HR) hps hn)
        have CC := hide C
        clear C hn
        go_wp2_with fail
        refine (unhide CC _).mono ?_
        rintro e w1 ⟨rfl, hb1⟩
        go_wp2
        go_ret2
        exact ⟨hbel.trans (hb1.mono hbel.size), .inr ⟨unhide hno, rfl⟩⟩
    · have hend : s.size ≤ p ∨ 1002 ≤ xs.length := by omega
      have HE := hide hend
      obtain ⟨wA, hA⟩ : ∃ wA, wA = wr := ⟨_, rfl⟩
      subst hA
      obtain ⟨ao, cap, hv, hcs⟩ := own_ints hown
      subst hv
      have HCS := hide hcs
      clear hcs hgo hown
      obtain ⟨j0, hj, hy0, hy1, hy2⟩ := info_parts Tryd.info132
      by_cases hps : p < s.size
      all_goals
        have hx2 : p < s.size → 1002 ≤ xs.length := fun h => by omega
        clear hend
        first | (have hx3 : 1002 ≤ xs.length := hx2 (by assumption)) | skip
        clear hx2
        go_wp2_with fail
        go_loopw [9, 10] (fun l i wr => ∃ k j : Nat, i = .int .i64 j ∧ Hid (j = 5 * k + 1) ∧ (k = 0 ∨ 5 * k + 1 ≤ xs.length) ∧ wr.ownsRow wA.heap.size 132 5 l k (cellsOf (rgs xs k)) ∧ Below wA.heap.size wA wr) (fun _ i _ => xs.length - (intOf i).toNat)
        case atStart => exact ⟨0, 1, rfl, rfl, .inl rfl, World.ownsRow_nil _ _ _ _, Below.refl _ _⟩
        case round =>
          obtain ⟨k, j, rfl, HJ, hk, hown2, hbel2⟩ := hrel
          have hB2 := hbel2.size
          have hk1 : 5 * k ≤ 1006 := by omega
          have hj1 : j ≤ 1007 := by have := unhide HJ; omega
          by_cases hlt : j + 4 < xs.length
          · obtain ⟨g, rfl, hg, hcell⟩ := unhide HCS (by omega)
            have hcw : ∀ i, i < xs.length → wr.cell? ⟨g, i, none⟩ = some (.int .i64 (nth xs i)) := fun i hi => (hbel2.cell hg).trans (hcell i hi)
            have c0 := hcw j (by omega)
            have c1 := hcw (j + 1) (by omega)
            have c2 := hcw (j + 2) (by omega)
            have c3 := hcw (j + 3) (by omega)
            have c4 := hcw (j + 4) (by omega)
            have HF1 := fine_nth (unhide HF) (show j + 1 < xs.length by omega)
            have HF2 := fine_nth (unhide HF) (show j + 2 < xs.length by omega)
            have a1 : IntKind.i64.wrap ((j : Int) + 1) = (j : Int) + 1 := by rw [IntKind.wrap_i64]; omega
            have a2 : IntKind.i64.wrap ((j : Int) + 2) = (j : Int) + 2 := by rw [IntKind.wrap_i64]; omega
            have a3 : IntKind.i64.wrap ((j : Int) + 3) = (j : Int) + 3 := by rw [IntKind.wrap_i64]; omega
            have a4 : IntKind.i64.wrap ((j : Int) + 4) = (j : Int) + 4 := by rw [IntKind.wrap_i64]; omega
            have a5 : IntKind.i64.wrap (nth xs (j + 1) + nth xs (j + 2)) = nth xs (j + 1) + nth xs (j + 2) := by rw [IntKind.wrap_i64]; have := HF1; have := HF2; unfold Fine at *; omega
            have b0 : (j : Int) < (xs.length : Int) := by omega
            have b1 : (j : Int) + 1 < (xs.length : Int) := by omega
            have b2 : (j : Int) + 2 < (xs.length : Int) := by omega
            have b3 : (j : Int) + 3 < (xs.length : Int) := by omega
            have b4 : (j : Int) + 4 < (xs.length : Int) := by omega
            have d0 : (0 : Int) ≤ (j : Int) := by omega
            have d1 : (0 : Int) ≤ (j : Int) + 1 := by omega
            have d2 : (0 : Int) ≤ (j : Int) + 2 := by omega
            have d3 : (0 : Int) ≤ (j : Int) + 3 := by omega
            have d4 : (0 : Int) ≤ (j : Int) + 4 := by omega
            have t1 : ((j : Int) + 1).toNat = j + 1 := by omega
            have t2 : ((j : Int) + 2).toNat = j + 2 := by omega
            have t3 : ((j : Int) + 3).toNat = j + 3 := by omega
            have t4 : ((j : Int) + 4).toNat = j + 4 := by omega
            have hng : ∀ k, Value.ownBlock u9 = some k → wA.heap.size ≤ k := own_ge hown2
            have hne : some g ≠ Value.ownBlock u9 := fun h => by have := hng g h.symm; omega
            have HN := hide hne
            have HG := hide hng
            clear HF1 HF2 hne hng
            go_wp2_with fail
            go_region_held3 (fun w' => w'.cell? ⟨g, j, none⟩ = some (.int .i64 (nth xs (j))) ∧ w'.cell? ⟨g, j + 1, none⟩ = some (.int .i64 (nth xs (j + 1))) ∧ w'.cell? ⟨g, j + 2, none⟩ = some (.int .i64 (nth xs (j + 2))) ∧ w'.cell? ⟨g, j + 3, none⟩ = some (.int .i64 (nth xs (j + 3))) ∧ w'.cell? ⟨g, j + 4, none⟩ = some (.int .i64 (nth xs (j + 4))))
              (first
                | go_keep
                | (go_split_ands
                   refine ⟨?_, ?_, ?_, ?_, ?_⟩
                   all_goals (rw [hgrow.cell_far _ (by simp; omega) (unhide HN)]; assumption)))
              ((refine step_append_lies _ (by rfl) _ _ _ (by rfl) wA.heap.size 132 j0 _ 5 40 Tryd.underlying93 hj hy0 hy1 hy2 rfl (by omega) u9 k (cellsOf (rgs xs k)) (by rfl) ((hown2.alloc _).drew)
                  ⟨wr.heap.size, 0, none⟩ 1 1 [.int .i64 (nth xs j), .int .i64 (nth xs (j + 1)), .int .i64 (nth xs (j + 1) + nth xs (j + 2)), .int .i64 (nth xs (j + 3)), .int .i64 (nth xs (j + 4))] (by rfl) (by rfl) (World.news_of_block (cs := #[.int .i64 (nth xs j), .int .i64 (nth xs (j + 1)), .int .i64 (nth xs (j + 1) + nth xs (j + 2)), .int .i64 (nth xs (j + 3)), .int .i64 (nth xs (j + 4))]) (t := 132) (fr := (0, 0)) (heap_alloc_new wr _)) (by simp [Value.oneCell'])
                  (by omega) (by unfold maxLen; omega) (by omega) (by simp; omega) (wr.heap.size + 1) (by simp) ?_; intro gg cap2 w2 hown3 hgrow hat hglt))
            have hO : w2.ownsRow wA.heap.size 132 5 (.slice (some ⟨gg, 0, none⟩) (k + 1) cap2) (k + 1) (cellsOf (rgs xs (k + 1))) := by
              have e : rgAt xs k = ⟨nth xs j, nth xs (j + 1), nth xs (j + 1) + nth xs (j + 2), nth xs (j + 3), nth xs (j + 4)⟩ := by rw [unhide HJ]; rfl
              rw [rgs_succ, cellsOf_snoc, e]; exact hown3
            have hb3 : Below wA.heap.size wA w2 := ((hbel2.alloc hbel2.size _).drew).grown hgrow (by simp; omega) (unhide HG)
            clear hown3 hgrow hown2
            go_wp2
            go_roundw
            case rel => exact ⟨k + 1, j + 5, by go_num, (by have := unhide HJ; unfold Hid; omega), .inr (by have := unhide HJ; omega), hO, hb3⟩
            case measure => simp [intOf]; omega
          · have hn5 : 5 * k + 5 ≥ xs.length ∧ 5 * k + 1 ≤ xs.length ∨ k = 0 ∧ xs.length ≤ 5 := by have := unhide HJ; omega
            have HT : Hid (∀ R, TabS s R → rgs xs k = R) := fun R h => rgs_tab (unhide HF) (unhide HR) (unhide HE) hn5 h
            have hown4 : wr.ownsRow wA.heap.size 132 5 u9 (rgs xs k).length (cellsOf (rgs xs k)) := by rw [rgs_len]; exact hown2
            clear hown2
            obtain ⟨ao2, cap2, hv2, hheld, hlen2, _, _⟩ := own_held hown4
            subst hv2
            have T := hide (fun w (h : Held w ao2 (rgs xs k)) => refEncode_any (rgs xs k) ao2 cap2 w h (by unfold maxLen at hlen2; omega))
            have HO := hide hown4
            have HH := hide hheld
            clear hn5 hown4 hheld
            have hbl := hbel.trans (hbel2.mono hbel.size)
            cases ht : isTab (rgs xs k)
            · have hno : Hid (∀ R, ¬ TabS s R) := fun R h => by
                have := h.1; rw [← unhide HT R h, ht] at this; cases this
              rw [encV_no ht] at T
              clear ht
              go_wp2_with fail
              refine (unhide T _ (unhide HH)).mono ?_
              rintro e w1 ⟨rfl, hb1⟩
              go_wp2
              go_ret2
              exact ⟨hbl.trans (hb1.mono hbl.size), .inr ⟨unhide hno, rfl⟩⟩
            · rw [encV_yes ht] at T
              by_cases hq : bytesOf (flat (rgs xs k)) = s.data.toList
              · have hyes : Hid (TabS s (rgs xs k)) := ⟨ht, hq⟩
                have hbe : ((encAll (rgs xs k)).toList == s.toList) = true := by
                  rw [ByteArray.toList_eq, ByteArray.toList_eq]; show (bytesOf (flat (rgs xs k)) == _) = true; rw [hq]; simp
                clear ht hq
                go_wp2_with fail
                refine (unhide T _ (unhide HH)).mono ?_
                rintro e w1 ⟨rfl, hb1⟩
                go_wp2
                go_ret2
                refine ⟨hbl.trans (hb1.mono hbl.size), .inl ⟨_, _, unhide hyes, rfl, ?_⟩⟩
                exact own_weakR (own_below (unhide HO) hb1) hbel.size
              · have hno : Hid (∀ R, ¬ TabS s R) := fun R h => hq (by rw [unhide HT R h]; exact h.2)
                have hbe : ((encAll (rgs xs k)).toList == s.toList) = false := by
                  rw [ByteArray.toList_eq, ByteArray.toList_eq]; show (bytesOf (flat (rgs xs k)) == _) = false; simpa using hq
                clear ht hq
                go_wp2_with fail
                refine (unhide T _ (unhide HH)).mono ?_
                rintro e w1 ⟨rfl, hb1⟩
                go_wp2
                go_ret2
                exact ⟨hbl.trans (hb1.mono hbl.size), .inr ⟨unhide hno, rfl⟩⟩
end Go.Proofs.YtoepcplbpochpaaDoor

/-
  Has a unit a table that may be? What the document's own check (lodgeref.tabled) answers.
-/
namespace Go.Proofs.YtoepcplbpochpaaDoor
open Go.RowKit

theorem refDecode_yes {s : ByteArray} {R : List Rg} (hs : s.size ≤ maxLen) (ht : TabS s R) (w : World) :
    Calls Tryd.prog 60 #[.string s] w fun e w' => ∃ v, e = .returned (.tuple #[v, .int .i64 0]) ∧ w'.ownsRow w.heap.size 132 5 v R.length (cellsOf R) ∧ Below w.heap.size w w' :=
  (refDecode_any s w hs).mono fun e w' h => by
    rcases h with ⟨hb, ⟨R', v, ht', he, ho⟩ | ⟨hn, _⟩⟩
    · obtain rfl := tab_uniq ht ht'; exact ⟨v, he, ho, hb⟩
    · exact absurd ht (hn R)
theorem refDecode_no {s : ByteArray} (hs : s.size ≤ maxLen) (ht : ∀ R, ¬ TabS s R) (w : World) :
    Calls Tryd.prog 60 #[.string s] w fun e w' => e = .returned (.tuple #[.slice none 0 0, .int .i64 14]) ∧ Below w.heap.size w w' :=
  (refDecode_any s w hs).mono fun e w' h => by
    rcases h with ⟨hb, ⟨R', v, ht', he, ho⟩ | ⟨hn, he⟩⟩
    · exact absurd ht' (ht R')
    · exact ⟨he, hb⟩

set_option maxRecDepth 100000 in
set_option maxHeartbeats 4000000 in
theorem tabled_any (K S P V : Int) (n : Nat) (T : ByteArray) (ao : Option Addr) (cap : Nat) (w : World) (hs : T.size ≤ maxLen) :
    Calls Tryd.prog 47 #[.agg #[.int .i64 K, .int .i64 S, .int .i64 P, .int .i64 V, .slice ao n cap, .string T]] w fun e w' =>
      e = .returned (.bool (tabB T K S V n)) ∧ Below w.heap.size w w' := by
  by_cases ht : ∃ R, TabS T R
  case neg =>
    have HF := hide (tabB_no (K := K) (S := S) (V := V) (n := n) (fun h => ht (h.elim fun R h => ⟨R, h.1⟩)))
    have KD := hide (fun w => refDecode_no hs (fun R h => ht ⟨R, h⟩) w)
    clear ht
    go_enter Tryd.func47, Tryd.ntmps47
    go_wp2_with fail
    obtain ⟨w1, hw1, ⟨p0, p1, p2, p3, p4, p5⟩, HB1, hz1⟩ := unit_open w K S P V (.slice ao n cap) T
    rw [← hw1]
    clear hw1
    refine (unhide KD w1).mono ?_
    rintro e w2 ⟨rfl, hb2⟩
    have HB2 : Hid (Below w.heap.size w w2) := (unhide HB1).trans (hb2.mono (Nat.le_of_lt hz1))
    clear hb2
    go_wp2
    go_ret
    exact ⟨ret_bool (unhide HF).symm, unhide HB2⟩
  obtain ⟨R, ht⟩ := ht
  have KD := hide (fun w => refDecode_yes hs ht w)
  have HT := hide ht
  clear ht
  go_enter Tryd.func47, Tryd.ntmps47
  go_wp2_with fail
  obtain ⟨w1, hw1, h6, HB1, hz1⟩ := unit_open w K S P V (.slice ao n cap) T
  have p5 := h6.2.2.2.2.2
  have H6 := hide h6
  rw [← hw1]
  clear hw1 h6
  refine (unhide KD w1).mono ?_
  rintro e w2 ⟨v, rfl, ho, hb2⟩
  have HB2 : Hid (Below w.heap.size w w2) := (unhide HB1).trans (hb2.mono (Nat.le_of_lt hz1))
  have H62 := hide ((unhide H6).below hb2 hz1)
  have hz2 : w.heap.size < w2.heap.size := Nat.lt_of_lt_of_le hz1 hb2.size
  obtain ⟨ao', cap', rfl, hH, hlen, _, _⟩ := own_held ho
  have HH := hide hH
  unfold maxLen at hlen
  clear hb2 ho hH p5 H6 HB1
  go_wp2_with fail
  go_loopw [5] (fun i wr => ∃ k : Nat, k ≤ R.length ∧ i = .int .i64 k ∧ Hid (∀ j, j < k → RgIn K S V n (rg R j)) ∧ Below w2.heap.size w2 wr) (fun i _ => R.length - (intOf i).toNat)
  case atStart => exact ⟨0, Nat.zero_le _, rfl, fun j hj => by omega, Below.refl _ _⟩
  case round =>
    obtain ⟨k, hk, rfl, HC, hbel⟩ := hrel
    have hB := hbel.size
    have HBr : Hid (Below w.heap.size w wr) := (unhide HB2).trans (hbel.mono (by omega))
    by_cases hlt : k < R.length
    case neg =>
      obtain rfl : k = R.length := by omega
      have HF := hide (tabB_yes (K := K) (S := S) (V := V) (n := n) ⟨R, unhide HT, unhide HC⟩)
      clear HC
      go_wp2
      go_ret
      exact ⟨ret_bool (unhide HF).symm, unhide HBr⟩
    obtain ⟨b, off, rfl, hb, hL⟩ : ∃ b off, ao' = some ⟨b, off, none⟩ ∧ b < w2.heap.size ∧ Lie w2 b off R := by
      rcases unhide HH with h | h
      · subst h; exact absurd hlt (by simp)
      · exact h
    obtain ⟨r, hr⟩ : ∃ r, r = rg R k := ⟨_, rfl⟩
    have hA := (hL k hlt).below hbel hb
    rw [← hr] at hA
    obtain ⟨c0, c1, c2, c3, c4⟩ := hA
    obtain ⟨m0, m1, m2, m3, m4, m5⟩ := (unhide H62).below hbel hz2
    have hbr : b < wr.heap.size := by omega
    have h2r : w.heap.size < wr.heap.size := by omega
    have HR := hide hr
    have hYes : Hid (RgIn K S V n r → ∀ j, j < k + 1 → RgIn K S V n (rg R j)) := fun h0 j hj => by
      by_cases e : j = k
      · subst e; rw [← unhide HR]; exact h0
      · exact unhide HC j (by omega)
    have hNo : Hid (rgIn K S V n r = false → tabB T K S V n = false) := fun hf => tabB_no (fun h => by
        obtain ⟨R', h1, h2⟩ := h
        obtain rfl := tab_uniq (unhide HT) h1
        have h3 := h2 k hlt
        rw [← unhide HR] at h3
        rw [rgIn_yes h3] at hf; cases hf)
    clear hr hL
    obtain ⟨v, f, t, kd, a⟩ := r
    have hc := rg_cases K S V n ⟨v, f, t, kd, a⟩
    simp only at hc c0 c1 c2 c3 c4
    rcases hc with ⟨g1, hf⟩ | ⟨g1, g2, hf⟩ | ⟨g1, g2, rfl, g4, hf⟩ | ⟨g1, g2, rfl, g4, hf⟩ | ⟨g1, g2, rfl, g4, hf⟩ | ⟨g1, g2, rfl, g4, hf⟩ | ⟨g1, g2, g3, g4, hf⟩
    · have HF := hide (unhide hNo hf)
      clear hf
      go_wp2
      go_ret
      exact ⟨ret_bool (unhide HF).symm, (unhide HBr).alloc (by omega) _⟩
    · have HF := hide (unhide hNo hf)
      clear hf
      go_wp2
      go_ret
      exact ⟨ret_bool (unhide HF).symm, (unhide HBr).alloc (by omega) _⟩
    · have HF := hide (unhide hNo hf)
      clear hf
      go_wp2
      go_ret
      exact ⟨ret_bool (unhide HF).symm, (unhide HBr).alloc (by omega) _⟩
    · have hnx := hide (unhide hYes (rgIn_true hf))
      clear hf
      go_wp2
      go_roundw
      case rel => exact ⟨k + 1, by omega, by go_num, unhide hnx, hbel.alloc hB _⟩
      case measure => simp [intOf]; omega
    · have HF := hide (unhide hNo hf)
      clear hf
      go_wp2
      go_ret
      exact ⟨ret_bool (unhide HF).symm, (unhide HBr).alloc (by omega) _⟩
    · have hnx := hide (unhide hYes (rgIn_true hf))
      clear hf
      go_wp2
      go_roundw
      case rel => exact ⟨k + 1, by omega, by go_num, unhide hnx, hbel.alloc hB _⟩
      case measure => simp [intOf]; omega
    · have hnx := hide (unhide hYes (rgIn_true hf))
      clear hf
      go_wp2
      go_roundw
      case rel => exact ⟨k + 1, by omega, by go_num, unhide hnx, hbel.alloc hB _⟩
      case measure => simp [intOf]; omega
end Go.Proofs.YtoepcplbpochpaaDoor

/-
  What the document's own check of a unit (lodgeref.CheckUnit) answers: the error and the place.
-/
namespace Go.Proofs.YtoepcplbpochpaaDoor
open Go.RowKit

set_option maxRecDepth 100000 in
set_option maxHeartbeats 4000000 in
theorem checkUnit_good (K S P V : Int) (L : List In4) (T : ByteArray) (ao : Option Addr) (cap : Nat) (w : World) (hH : HeldIns w ao L) (hs : T.size ≤ maxLen) (hu : ¬ UnitBad K S P V L.length) :
    Calls Tryd.prog 14 #[.agg #[.int .i64 K, .int .i64 S, .int .i64 P, .int .i64 V, .slice ao L.length cap, .string T]] w fun e w' =>
      e = .returned (.tuple #[.int .i64 (unitE K S P V L T).1, .int .i64 (unitE K S P V L T).2]) ∧ Below w.heap.size w w' := by
  have he := hide (unitE_good (T := T) hu)
  obtain ⟨g1, g2, g3, g4, g5, g6, g7, g8, g9, g10, g11⟩ := unit_good hu
  obtain ⟨b, off, rfl, hb, hL⟩ : ∃ b off, ao = some ⟨b, off, none⟩ ∧ b < w.heap.size ∧ LieI w b off L := by
    rcases hH with h | h
    · subst h; exact absurd g10 (by simp)
    · exact h
  have KT := hide (fun w => tabled_any K S P V L.length T (some ⟨b, off, none⟩) cap w hs)
  have KC := hide (fun w g (hL : LieI w b off L) (hb : b < w.heap.size) (hg : w.heap[g]? = some (.cells (opsA false) 4 (0, 0))) => coded_any false L b off cap g K 0 S w hL hb hg (by omega) (by omega))
  obtain ⟨e1, he1⟩ : ∃ e, e = (codedE false L K 0 S).1 := ⟨_, rfl⟩
  obtain ⟨e2, he2⟩ : ∃ e, e = (codedE false L K 0 S).2 := ⟨_, rfl⟩
  obtain ⟨tb, htb⟩ : ∃ b, b = tabB T K S V L.length := ⟨_, rfl⟩
  have he' := hide (show unitE K S P V L T = if e1 ≠ 0 then (e1, e2) else if tb = true then (0, 0) else (10, 0) by rw [unhide he, he1, he2, htb])
  rw [← he1, ← he2] at KC
  rw [← htb] at KT
  have HL := hide hL
  clear hu hH hL hs he he1 he2 htb
  go_enter Tryd.func14, Tryd.ntmps14
  go_wp2_with fail
  obtain ⟨w1, hw1, h6, HB1, hz⟩ := unit_open w K S P V (.slice (some ⟨b, off, none⟩) L.length cap) T
  rw [← hw1]
  have H6 := hide h6
  have p0 := h6.1
  have p1 := h6.2.1
  have p4 := h6.2.2.2.2.1
  clear hw1 h6
  go_region_held3 (fun w' => w'.cell? ⟨w.heap.size, 0, none⟩ = some (.int .i64 K) ∧ w'.cell? ⟨w.heap.size, 1, none⟩ = some (.int .i64 S) ∧ w'.cell? ⟨w.heap.size, 4, none⟩ = some (.slice (some ⟨b, off, none⟩) L.length cap)) (simp [*])
    (first
      | (go_at_call 44; refine (ops_any false _).mono ?_; rintro e w2 ⟨rfl, hw2⟩; have hb2 : Below w1.heap.size w1.drew w2 := (by rw [hw2]; exact (Below.refl w1.heap.size w1.drew).alloc (Nat.le_refl _) _); have hs2 : w1.heap.size ≤ w2.heap.size := hb2.size; have hg2 : w2.heap[w1.heap.size]? = some (.cells (opsA false) 4 (0, 0)) := (by rw [hw2]; exact Array.getElem?_push_size); have q0 := (hb2.cell (p := ⟨w.heap.size, 0, none⟩) hz).trans p0; have q1 := (hb2.cell (p := ⟨w.heap.size, 1, none⟩) hz).trans p1; have q4 := (hb2.cell (p := ⟨w.heap.size, 4, none⟩) hz).trans p4; have HB2 : Hid (Below w.heap.size w w2) := hide (((unhide HB1).drew).trans (hb2.mono (Nat.le_of_lt hz))); have HG2 := hide hg2; have HBX := hide ((Below.refl w1.heap.size w1).drew.trans hb2); clear hw2 hb2 hg2)
      | (go_at_call 43; refine (unhide KC _ w1.heap.size ?_ ?_ ?_).mono ?_; exact (unhide HL).below (unhide HB2) hb; exact Nat.lt_of_lt_of_le hb (unhide HB2).size; exact unhide HG2; rintro e w3 ⟨rfl, hb3⟩; have HB3 : Hid (Below w.heap.size w w3) := hide ((unhide HB2).trans (hb3.mono (unhide HB2).size)); have hz3 : w.heap.size < w2.heap.size := Nat.lt_of_lt_of_le hz hs2; have r0 := (hb3.cell (p := ⟨w.heap.size, 0, none⟩) hz3).trans q0; have r1 := (hb3.cell (p := ⟨w.heap.size, 1, none⟩) hz3).trans q1; have r4 := (hb3.cell (p := ⟨w.heap.size, 4, none⟩) hz3).trans q4; have HBY := hide ((unhide HBX).trans (hb3.mono hs2)); clear hb3))
  all_goals
    have h62 := (unhide H6).below (unhide HBY) hz
    obtain ⟨_, _, t2, t3, _, t5⟩ := h62
    have hz4 : w.heap.size < w3.heap.size := Nat.lt_of_lt_of_le hz (unhide HBY).size
    clear HBX HBY HB1 HB2 HG2 H6 HL q0 q1 q4 p0 p1 p4
    by_cases h1 : e1 = 0
    case neg =>
      have h1' : (e1 != 0) = true := by rw [bne_iff_ne]; exact h1
      have he2 := hide (show unitE K S P V L T = (e1, e2) by rw [unhide he', if_pos h1])
      go_wp2_with fail
      go_ret2
      exact ⟨ret2 (by rw [unhide he2]) (by rw [unhide he2]), unhide HB3⟩
    subst h1
    go_wp2_with fail
    refine (unhide KT w3).mono ?_
    rintro e w4 ⟨rfl, hb4⟩
    have HB4 : Hid (Below w.heap.size w w4) := hide ((unhide HB3).trans (hb4.mono (Nat.le_of_lt hz4)))
    clear hb4
    cases tb
    · have he2 := hide (show unitE K S P V L T = (10, 0) by rw [unhide he', if_neg (fun h => h rfl), if_neg (by decide)])
      go_wp2_with fail
      go_ret2
      exact ⟨ret2 (by rw [unhide he2]) (by rw [unhide he2]), unhide HB4⟩
    · have he2 := hide (show unitE K S P V L T = (0, 0) by rw [unhide he', if_neg (fun h => h rfl), if_pos rfl])
      go_wp2_with fail
      go_ret2
      exact ⟨ret2 (by rw [unhide he2]) (by rw [unhide he2]), unhide HB4⟩

set_option maxRecDepth 100000 in
set_option maxHeartbeats 2000000 in
theorem checkUnit_any (K S P V : Int) (L : List In4) (T : ByteArray) (ao : Option Addr) (cap : Nat) (w : World) (hH : HeldIns w ao L) (hn : L.length ≤ 9223372036854775807) (hs : T.size ≤ maxLen) :
    Calls Tryd.prog 14 #[.agg #[.int .i64 K, .int .i64 S, .int .i64 P, .int .i64 V, .slice ao L.length cap, .string T]] w fun e w' =>
      e = .returned (.tuple #[.int .i64 (unitE K S P V L T).1, .int .i64 (unitE K S P V L T).2]) ∧ Below w.heap.size w w' := by
  by_cases hu : UnitBad K S P V L.length
  · have he := hide (unitE_bad (T := T) hu)
    rcases unit_cases hu with h | ⟨g1, h⟩ | ⟨g1, g2, h⟩ | ⟨g1, g2, g3, h⟩ | ⟨g1, g2, g3, g4, h⟩ | ⟨g1, g2, g3, g4, g5, h⟩ | ⟨g1, g2, g3, g4, g5, g6, h⟩ | ⟨g1, g2, g3, g4, g5, g6, g7, h⟩ | ⟨g1, g2, g3, g4, g5, g6, g7, g8, h⟩ | ⟨g1, g2, g3, g4, g5, g6, g7, g8, g9, h⟩ | ⟨g1, g2, g3, g4, g5, g6, g7, g8, g9, g10, h⟩
    all_goals
      clear hu
      go_enter Tryd.func14, Tryd.ntmps14
      go_wp2
      go_ret2
      exact ⟨ret2 (by rw [unhide he]) (by rw [unhide he]), (Below.refl _ _).alloc (Nat.le_refl _) _⟩
  · exact checkUnit_good K S P V L T ao cap w hH hs hu
end Go.Proofs.YtoepcplbpochpaaDoor

/-
  What the program's own unit's run tells at a Stop: (*mach.run).held, (*mach.run).ask.
-/
namespace Go.Proofs.YtoepcplbpochpaaDoor
open Go.RowKit

set_option maxRecDepth 100000 in
set_option maxHeartbeats 2000000 in
theorem held_any (B : Nat) (s : St) (vo vs : Value) (r : Rg) (w : World) (h : StB w B s vo vs) (hnv : s.env.nv = 16) (ha : r.k = 0 ∨ r.k = 1 → 0 ≤ r.a ∧ r.a < 16) :
    Calls Tryd.prog 116 #[.pointer (some ⟨B, 0, none⟩), .agg #[.int .i64 r.v, .int .i64 r.f, .int .i64 r.t, .int .i64 r.k, .int .i64 r.a]] w fun e w' =>
      e = .returned (.int .i64 (heldE s.regs s.vars r)) ∧ Below w.heap.size w w' := by
  have hB := h.lt
  obtain ⟨v, f, t, k, a⟩ := r
  simp only at ha ⊢
  obtain ⟨w2, hw2⟩ : ∃ w2, w2 = w.alloc (.cells #[.int .i64 v, .int .i64 f, .int .i64 t, .int .i64 k, .int .i64 a] 132) := ⟨_, rfl⟩
  have HS2 : Hid (StB w2 B s vo vs) := by rw [hw2]; exact h.of_block (Below.heap_alloc _ _ _ hB)
  have q : ∀ i, w2.cell? ⟨w.heap.size, i, none⟩ = #[Value.int .i64 v, .int .i64 f, .int .i64 t, .int .i64 k, .int .i64 a][i]? := fun i => by rw [hw2]; exact World.cell?_alloc_at (hn := rfl) ..
  have q3 : w2.cell? ⟨w.heap.size, 3, none⟩ = some (.int .i64 k) := (q 3).trans rfl
  have q4 : w2.cell? ⟨w.heap.size, 4, none⟩ = some (.int .i64 a) := (q 4).trans rfl
  have HB2 : Hid (Below w.heap.size w w2) := by rw [hw2]; exact (Below.refl _ _).alloc (Nat.le_refl _) _
  have HW := hide hw2
  clear q hw2 h
  by_cases h0 : k = 0
  · subst h0
    obtain ⟨a0, a1⟩ := ha (.inl rfl)
    obtain ⟨an, rfl⟩ : ∃ an : Nat, a = an := ⟨a.toNat, by omega⟩
    obtain ⟨y, hy⟩ : ∃ y, y = s.regs an := ⟨_, rfl⟩
    have ca : w2.cell? ⟨B, an, none⟩ = some (.int .i64 y) := by rw [hy]; exact (unhide HS2).1 an (by omega)
    have he := hide (show heldE s.regs s.vars ⟨v, f, t, 0, (an : Int)⟩ = y by rw [hy]; rfl)
    clear hy ha
    go_enter Tryd.func116, Tryd.ntmps116
    go_wp2_with fail
    rw [← unhide HW]
    go_wp2_with fail
    go_region_held3 (fun w' => w'.cell? ⟨w.heap.size, 4, none⟩ = some (.int .i64 (an : Int)) ∧ w'.cell? ⟨B, an, none⟩ = some (.int .i64 y)) (simp [*]) (fail)
    go_wp2_with fail
    go_ret
    exact ⟨ret_int (unhide he).symm, (unhide HB2).drew⟩
  by_cases h1 : k = 1
  · subst h1
    obtain ⟨a0, a1⟩ := ha (.inr rfl)
    obtain ⟨an, rfl⟩ : ∃ an : Nat, a = an := ⟨a.toNat, by omega⟩
    obtain ⟨y, hy⟩ : ∃ y, y = s.vars an := ⟨_, rfl⟩
    have ca : w2.cell? ⟨B, 23 + an, none⟩ = some (.int .i64 y) := by rw [hy]; exact (unhide HS2).2.1 an (by omega)
    have he := hide (show heldE s.regs s.vars ⟨v, f, t, 1, (an : Int)⟩ = y by rw [hy]; rfl)
    clear hy ha
    go_enter Tryd.func116, Tryd.ntmps116
    go_wp2_with fail
    rw [← unhide HW]
    go_wp2_with fail
    go_region_held3 (fun w' => w'.cell? ⟨w.heap.size, 4, none⟩ = some (.int .i64 (an : Int)) ∧ w'.cell? ⟨B, 23 + an, none⟩ = some (.int .i64 y)) (simp [*]) (fail)
    go_wp2_with fail
    go_ret
    exact ⟨ret_int (unhide he).symm, (unhide HB2).drew⟩
  · have e0 : (k == 0) = false := by rw [beq_eq_false_iff_ne]; exact h0
    have e1 : (k == 1) = false := by rw [beq_eq_false_iff_ne]; exact h1
    have he := hide (show heldE s.regs s.vars ⟨v, f, t, k, a⟩ = a by unfold heldE; rw [if_neg h0, if_neg h1])
    clear ha
    go_enter Tryd.func116, Tryd.ntmps116
    go_wp2_with fail
    rw [← unhide HW]
    go_wp2_with fail
    go_ret
    exact ⟨ret_int (unhide he).symm, unhide HB2⟩

theorem Tryd.size61 : (Tryd.prog.info? 61).map (·.size) = some 4 := by kernel_rfl
/-- Four numbers in a block. -/
def Four (w : World) (D : Nat) (f : Nat → Int) : Prop := (∀ v, v < 4 → w.cell? ⟨D, v, none⟩ = some (.int .i64 (f v))) ∧ ∀ o, w.frozen? ⟨D, o, none⟩ = false
theorem Four.lt {w : World} {D : Nat} {f : Nat → Int} (h : Four w D f) : D < w.heap.size := World.block_lt_of_cell? w ⟨D, 0, none⟩ (h.1 0 (by decide))
theorem Four.of_block {w w' : World} {D : Nat} {f : Nat → Int} (h : Four w D f) (hb : w'.heap[D]? = w.heap[D]?) : Four w' D f :=
  ⟨fun v hv => (World.cell?_of_block hb).trans (h.1 v hv), fun o => (World.frozen?_of_block hb).trans (h.2 o)⟩
theorem Four.set {w : World} {D : Nat} {f g : Nat → Int} (h : Four w D f) (v : Nat) (hv : v < 4) (y : Int) (hg : ∀ u, u < 4 → g u = if u = v then y else f u) : Four (w.setCell ⟨D, v, none⟩ (.int .i64 y)) D g := by
  refine ⟨fun u hu => ?_, frozen_set h.2⟩
  rw [hg u hu]
  by_cases e : u = v
  · subst e; rw [cell_put (h.1 u hu), if_pos rfl]
  · rw [cell_set (h.1 u hu) e, if_neg e]
theorem Four.to {w : World} {D : Nat} {f g : Nat → Int} (h : Four w D f) (hg : ∀ u, u < 4 → g u = f u) : Four w D g := ⟨fun u hu => by rw [hg u hu]; exact h.1 u hu, h.2⟩
theorem four_row {w : World} {D : Nat} {a b c d : Value} {t : TypeId} {f : Nat → Int} (h : w.heap[D]? = some (.cells #[a, b, c, d] t (0, 0))) (h0 : a = .int .i64 (f 0)) (h1 : b = .int .i64 (f 1)) (h2 : c = .int .i64 (f 2)) (h3 : d = .int .i64 (f 3)) : Four w D f := by
  refine ⟨fun v hv => ?_, fun o => by simp [World.frozen?, h]⟩
  rw [cell_of_row w D v _ t (0, 0) h]
  rcases (show v = 0 ∨ v = 1 ∨ v = 2 ∨ v = 3 by omega) with rfl | rfl | rfl | rfl
  · rw [h0]; rfl
  · rw [h1]; rfl
  · rw [h2]; rfl
  · rw [h3]; rfl
theorem set4 {w : World} {g : Nat} {z0 z1 z2 z3 : Value} (h : w.heap[g]? = some (.cells #[z0, z1, z2, z3] 61 (0, 0))) (a b c d : Value) :
    ((((w.setCell ⟨g, 0, none⟩ a).setCell ⟨g, 1, none⟩ b).setCell ⟨g, 2, none⟩ c).setCell ⟨g, 3, none⟩ d).heap[g]? = some (.cells #[a, b, c, d] 61 (0, 0)) := by
  have h0 := heap_setCell_same w g 0 _ 61 a h
  have h1 := heap_setCell_same _ g 1 _ 61 b h0
  have h2 := heap_setCell_same _ g 2 _ 61 c h1
  have h3 := heap_setCell_same _ g 3 _ 61 d h2
  rw [h3]; rfl
theorem below4 {B : Nat} {a w : World} {g : Nat} (h : Below B a w) (hg : B ≤ g) (v0 v1 v2 v3 : Value) : Below B a ((((w.setCell ⟨g, 0, none⟩ v0).setCell ⟨g, 1, none⟩ v1).setCell ⟨g, 2, none⟩ v2).setCell ⟨g, 3, none⟩ v3) :=
  (((h.setCell (p := ⟨g, 0, none⟩) hg _).setCell (p := ⟨g, 1, none⟩) hg _).setCell (p := ⟨g, 2, none⟩) hg _).setCell (p := ⟨g, 3, none⟩) hg _

/-- What the ranges of a unit's table keep to. -/
def RgFit (r : Rg) : Prop := 0 ≤ r.v ∧ r.v < 4 ∧ (r.k = 0 ∨ r.k = 1 → 0 ≤ r.a ∧ r.a < 16)
theorem RightU.fit {K S P V : Int} {L : List In4} {R : List Rg} (h : RightU K S P V L R) : ∀ i, i < R.length → RgFit (rg R i) := fun i hi => by
  have h1 := isTab_rg h.tab hi
  obtain ⟨g1, g2, g3, g4⟩ := h.rgs i hi
  have hv := h.v4
  have hk := h.k16
  have hs := h.s16
  simp [isRg] at h1
  refine ⟨by omega, by omega, fun hk => ?_⟩
  rcases hk with e | e
  · have := g3 e; omega
  · have := g4 e; omega

set_option maxRecDepth 100000 in
set_option maxHeartbeats 4000000 in
theorem ask_any (B : Nat) (s : St) (vo vs : Value) (R : List Rg) (ao : Option Addr) (cap i : Nat) (w : World) (h : StB w B s vo vs) (hE : s.env = unitEnv R (some (.slice ao R.length cap))) (hH : Held w ao R) (hF : ∀ i, i < R.length → RgFit (rg R i)) (hlen : R.length ≤ 1000) :
    Calls Tryd.prog 91 #[.pointer (some ⟨B, 0, none⟩), .int .i64 (i : Int)] w fun e w' =>
      e = .returned (.agg #[.int .i64 (toldTo R s.regs s.vars i 0 R.length), .int .i64 (toldTo R s.regs s.vars i 1 R.length), .int .i64 (toldTo R s.regs s.vars i 2 R.length), .int .i64 (toldTo R s.regs s.vars i 3 R.length)]) ∧ Below w.heap.size w w' := by
  have hB := h.lt
  have hnv : s.env.nv = 16 := by rw [hE]; rfl
  have c39 : w.cell? ⟨B, 39, none⟩ = some (.slice ao R.length cap) := by
    have := h.2.2.2.2.2.2.2.2.2.2 39 (by rw [hnv]; decide)
    rw [hE] at this
    exact this
  have KH := hide (fun (r : Rg) (w : World) (h : StB w B s vo vs) (ha : r.k = 0 ∨ r.k = 1 → 0 ≤ r.a ∧ r.a < 16) => held_any B s vo vs r w h hnv ha)
  have HS := hide h
  have HH := hide hH
  have HF := hide hF
  clear h hH hF hE
  go_enter Tryd.func91, Tryd.ntmps91
  go_wp2
  refine wp_loop_rounds 5 ?_
  iterate 4 (rw [rounds_succ]; go_wp2)
  rw [rounds_succ]
  go_wp2_with fail
  obtain ⟨w1, hw1⟩ : ∃ w1, w1 = (w.alloc (.cells #[.int .i64 0, .int .i64 0, .int .i64 0, .int .i64 0] 61)).alloc (.cells #[.int .i64 (-1), .int .i64 (-1), .int .i64 (-1), .int .i64 (-1)] 61) := ⟨_, rfl⟩
  rw [← hw1]
  have hz1 : w1.heap.size = w.heap.size + 2 := by rw [hw1]; simp
  have HB1 : Hid (Below w.heap.size w w1) := by rw [hw1]; exact ((Below.refl _ _).alloc (Nat.le_refl _) _).alloc (by simp) _
  have HD1 : Hid (Four w1 (w.heap.size + 1) (fun v => toldTo R s.regs s.vars i v 0)) := by
    refine four_row (t := 61) (a := .int .i64 (-1)) (b := .int .i64 (-1)) (c := .int .i64 (-1)) (d := .int .i64 (-1)) ?_ rfl rfl rfl rfl
    have hh := heap_alloc_new (w.alloc (.cells #[.int .i64 0, .int .i64 0, .int .i64 0, .int .i64 0] 61)) (.cells #[.int .i64 (-1), .int .i64 (-1), .int .i64 (-1), .int .i64 (-1)] 61)
    rw [show (w.alloc (.cells #[.int .i64 0, .int .i64 0, .int .i64 0, .int .i64 0] 61)).heap.size = w.heap.size + 1 by simp] at hh
    rw [hw1]; exact hh
  have HR1 : Hid (w1.heap[w.heap.size]? = some (.cells #[.int .i64 0, .int .i64 0, .int .i64 0, .int .i64 0] 61 (0, 0))) := by
    rw [hw1]; exact (Below.heap_alloc _ _ _ (by simp)).trans (heap_alloc_new _ _)
  clear hw1
  go_loopw [7] (fun j wr => ∃ k : Nat, k ≤ R.length ∧ j = .int .i64 k ∧ Hid (Four wr (w.heap.size + 1) (fun v => toldTo R s.regs s.vars i v k)) ∧ Hid (Below (w.heap.size + 1) w1 wr)) (fun j _ => R.length - (intOf j).toNat)
  case atStart => exact ⟨0, Nat.zero_le _, rfl, unhide HD1, Below.refl _ _⟩
  case round =>
    obtain ⟨k, hk, rfl, HD, HB⟩ := hrel
    have hBs := (unhide HB).size
    have HBr : Hid (Below w.heap.size w wr) := (unhide HB1).trans ((unhide HB).mono (by omega))
    have d39 := ((unhide HBr).cell (p := ⟨B, 39, none⟩) hB).trans c39
    have hDl : w.heap.size + 1 < wr.heap.size := (unhide HD).lt
    by_cases hlt : k < R.length
    case neg =>
      obtain rfl : k = R.length := by omega
      obtain ⟨x0, hx0⟩ : ∃ x, x = toldTo R s.regs s.vars i 0 R.length := ⟨_, rfl⟩
      obtain ⟨x1, hx1⟩ : ∃ x, x = toldTo R s.regs s.vars i 1 R.length := ⟨_, rfl⟩
      obtain ⟨x2, hx2⟩ : ∃ x, x = toldTo R s.regs s.vars i 2 R.length := ⟨_, rfl⟩
      obtain ⟨x3, hx3⟩ : ∃ x, x = toldTo R s.regs s.vars i 3 R.length := ⟨_, rfl⟩
      have t0 : wr.cell? ⟨w.heap.size + 1, 0, none⟩ = some (.int .i64 x0) := by rw [hx0]; exact (unhide HD).1 0 (by decide)
      have t1 : wr.cell? ⟨w.heap.size + 1, 1, none⟩ = some (.int .i64 x1) := by rw [hx1]; exact (unhide HD).1 1 (by decide)
      have t2 : wr.cell? ⟨w.heap.size + 1, 2, none⟩ = some (.int .i64 x2) := by rw [hx2]; exact (unhide HD).1 2 (by decide)
      have t3 : wr.cell? ⟨w.heap.size + 1, 3, none⟩ = some (.int .i64 x3) := by rw [hx3]; exact (unhide HD).1 3 (by decide)
      have HX := hide (And.intro hx0 (And.intro hx1 (And.intro hx2 hx3)))
      have hr := ((unhide HB).block w.heap.size (by omega)).trans (unhide HR1)
      have HRr := hide hr
      have n0 : wr.cell? ⟨w.heap.size, 0, none⟩ = some (.int .i64 0) := (cell_of_row wr _ 0 _ 61 (0, 0) hr).trans rfl
      have n1 : wr.cell? ⟨w.heap.size, 1, none⟩ = some (.int .i64 0) := (cell_of_row wr _ 1 _ 61 (0, 0) hr).trans rfl
      have n2 : wr.cell? ⟨w.heap.size, 2, none⟩ = some (.int .i64 0) := (cell_of_row wr _ 2 _ 61 (0, 0) hr).trans rfl
      have n3 : wr.cell? ⟨w.heap.size, 3, none⟩ = some (.int .i64 0) := (cell_of_row wr _ 3 _ 61 (0, 0) hr).trans rfl
      have nf : ∀ o, wr.frozen? ⟨w.heap.size, o, none⟩ = false := fun o => by simp [World.frozen?, hr]
      clear hx0 hx1 hx2 hx3 hr
      go_wp2_with fail
      refine bodyPost_ret (results_cell_row rfl _ _ w.heap.size 61 _ (0, 0) _ rfl (set4 (unhide HRr) _ _ _ _) Tryd.underlying61 rfl Tryd.size61) rfl ?_
      exact ⟨by rw [← (unhide HX).1, ← (unhide HX).2.1, ← (unhide HX).2.2.1, ← (unhide HX).2.2.2], below4 (unhide HBr) (Nat.le_refl _) _ _ _ _⟩
    obtain ⟨b, off, rfl, hb, hL⟩ : ∃ b off, ao = some ⟨b, off, none⟩ ∧ b < w.heap.size ∧ Lie w b off R := by
      rcases unhide HH with h | h
      · subst h; exact absurd hlt (by simp)
      · exact h
    obtain ⟨r, hr⟩ : ∃ r, r = rg R k := ⟨_, rfl⟩
    have hA := (hL k hlt).below (unhide HBr) hb
    have hfit := unhide HF k hlt
    rw [← hr] at hA hfit
    obtain ⟨c0, c1, c2, c3, c4⟩ := hA
    have HR := hide hr
    clear hr hL
    by_cases hcov : r.f ≤ (i : Int) ∧ (i : Int) < r.t
    case neg =>
      have HN : Hid (∀ v, toldTo R s.regs s.vars i v (k + 1) = toldTo R s.regs s.vars i v k) := fun v => toldTo_miss (fun h => hcov ⟨by have := h.2.1; rw [← unhide HR] at this; exact this, by have := h.2.2; rw [← unhide HR] at this; exact this⟩)
      rcases (show (i : Int) < r.f ∨ (r.f ≤ (i : Int) ∧ r.t ≤ (i : Int)) by omega) with h | ⟨h, h'⟩
      all_goals
        clear hcov hfit
        go_wp2_with fail
        go_roundw
        case rel => exact ⟨k + 1, by omega, by go_num, ((unhide HD).of_block (Below.heap_alloc _ _ _ hDl)).to (fun v _ => unhide HN v), (unhide HB).alloc (by omega) _⟩
        case measure => simp [intOf]; omega
    obtain ⟨g1, g2⟩ := hcov
    obtain ⟨v0, v3, ha⟩ := hfit
    obtain ⟨vn, hvn⟩ : ∃ vn : Nat, r.v = (vn : Int) := ⟨r.v.toNat, by omega⟩
    have KC := hide (fun (w : World) (h : StB w B s vo vs) => unhide KH r w h ha)
    obtain ⟨y, hy⟩ : ∃ y, y = heldE s.regs s.vars r := ⟨_, rfl⟩
    rw [← hy] at KC
    have HN : Hid (∀ v, v < 4 → toldTo R s.regs s.vars i v (k + 1) = if v = vn then y else toldTo R s.regs s.vars i v k) := fun v _ => by
      by_cases e : v = vn
      · rw [if_pos e, toldTo_hit (show Hits (rg R k) i v by rw [← unhide HR]; exact ⟨by rw [hvn, e], g1, g2⟩), ← unhide HR, hy]
      · rw [if_neg e, toldTo_miss (fun h => e (by have := h.1; rw [← unhide HR] at this; omega))]
    have hv4 : vn < 4 := by omega
    have cd := (unhide HD).1 vn hv4
    have fd := (unhide HD).2
    rw [hvn] at c0 KC
    have HY := hide hy
    clear hvn ha hy KH
    go_wp2_with fail
    obtain ⟨w5, hw5⟩ : ∃ w5, w5 = wr.alloc (.cells #[.int .i64 (vn : Int), .int .i64 r.f, .int .i64 r.t, .int .i64 r.k, .int .i64 r.a] 132) := ⟨_, rfl⟩
    rw [← hw5]
    have q : ∀ o, w5.cell? ⟨wr.heap.size, o, none⟩ = #[Value.int .i64 (vn : Int), .int .i64 r.f, .int .i64 r.t, .int .i64 r.k, .int .i64 r.a][o]? := fun o => by rw [hw5]; exact World.cell?_alloc_at (hn := rfl) ..
    have q0 : w5.cell? ⟨wr.heap.size, 0, none⟩ = some (.int .i64 (vn : Int)) := (q 0).trans rfl
    have q1 : w5.cell? ⟨wr.heap.size, 1, none⟩ = some (.int .i64 r.f) := (q 1).trans rfl
    have q2 : w5.cell? ⟨wr.heap.size, 2, none⟩ = some (.int .i64 r.t) := (q 2).trans rfl
    have q3 : w5.cell? ⟨wr.heap.size, 3, none⟩ = some (.int .i64 r.k) := (q 3).trans rfl
    have q4 : w5.cell? ⟨wr.heap.size, 4, none⟩ = some (.int .i64 r.a) := (q 4).trans rfl
    have HD5 : Hid (Four w5 (w.heap.size + 1) (fun v => toldTo R s.regs s.vars i v k)) := by rw [hw5]; exact (unhide HD).of_block (Below.heap_alloc _ _ _ hDl)
    have HB5 : Hid (Below (w.heap.size + 1) w1 w5) := by rw [hw5]; exact (unhide HB).alloc (by omega) _
    have HS5 : Hid (StB w5 B s vo vs) := by rw [hw5]; exact ((unhide HS).of_block ((unhide HBr).block B hB)).of_block (Below.heap_alloc _ _ _ (Nat.lt_of_lt_of_le hB (unhide HBr).size))
    have hz5 : wr.heap.size < w5.heap.size := by rw [hw5]; simp
    have cd5 := (unhide HD5).1 vn hv4
    have fd5 := (unhide HD5).2
    have hD5 : w.heap.size + 1 < w5.heap.size := by omega
    have hne : wr.heap.size ≠ w.heap.size + 1 := by omega
    have hk5 : ∀ (wq : World) (o : Nat) (z : Value), (wq.setCell ⟨w.heap.size + 1, vn, none⟩ z).cell? ⟨wr.heap.size, o, none⟩ = wq.cell? ⟨wr.heap.size, o, none⟩ := fun wq o z => World.cell?_setCell_other _ _ _ _ (fun e => by injection e with e1; omega)
    clear hw5 q c0 c1 c2 c3 c4 cd fd HD HB
    have v4 : (vn : Int) < 4 := by omega
    go_region_held3 (fun w' => w'.cell? ⟨wr.heap.size, 0, none⟩ = some (.int .i64 (vn : Int)) ∧ w'.cell? ⟨wr.heap.size, 1, none⟩ = some (.int .i64 r.f) ∧ w'.cell? ⟨wr.heap.size, 2, none⟩ = some (.int .i64 r.t) ∧ w'.cell? ⟨wr.heap.size, 3, none⟩ = some (.int .i64 r.k) ∧ w'.cell? ⟨wr.heap.size, 4, none⟩ = some (.int .i64 r.a)) (first | (simp [*]; done) | (refine ⟨?_, ?_, ?_, ?_, ?_⟩ <;> assumption))
      ((go_at_call 116; refine (unhide KC _ ?_).mono ?_; exact (unhide HS5).drew; rintro e w6 ⟨rfl, hb6⟩; have x0 := (hb6.cell (p := ⟨wr.heap.size, 0, none⟩) hz5).trans q0; have x1 := (hb6.cell (p := ⟨wr.heap.size, 1, none⟩) hz5).trans q1; have x2 := (hb6.cell (p := ⟨wr.heap.size, 2, none⟩) hz5).trans q2; have x3 := (hb6.cell (p := ⟨wr.heap.size, 3, none⟩) hz5).trans q3; have x4 := (hb6.cell (p := ⟨wr.heap.size, 4, none⟩) hz5).trans q4; have cd6 := (hb6.cell (p := ⟨w.heap.size + 1, vn, none⟩) hD5).trans cd5; have fd6 : w6.frozen? ⟨w.heap.size + 1, vn, none⟩ = false := (hb6.frozen (p := ⟨w.heap.size + 1, vn, none⟩) hD5).trans (fd5 vn); have HD6 := hide ((unhide HD5).of_block (hb6.block (w.heap.size + 1) hD5)); have HB6 := hide ((unhide HB5).drew.trans (hb6.mono (show w.heap.size + 1 ≤ w5.heap.size by omega))); clear hb6))
    go_wp2_with fail
    go_roundw
    case rel => exact ⟨k + 1, by omega, by go_num, (unhide HD6).set vn hv4 y (unhide HN), (unhide HB6).setCell (p := ⟨w.heap.size + 1, vn, none⟩) (Nat.le_refl _) _⟩
    case measure => simp [intOf]; omega
end Go.Proofs.YtoepcplbpochpaaDoor
