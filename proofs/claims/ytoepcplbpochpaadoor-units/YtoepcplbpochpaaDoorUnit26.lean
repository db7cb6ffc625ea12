/-
  What lodgeref.Decode answers, of every string: just what leb.Decode answers.
-/
import Derived.Test.YtoepcplbpochpaaDoorUnit10
import Derived.Test.YtoepcplbpochpaaDoorUnit25
import Derived.Deep.AppendLies
import Derived.Deep.RegionHeld3

namespace Go.Proofs.YtoepcplbpochpaaDoor
open Go.RowKit

theorem rgives_or (s : ByteArray) (p : Nat) (hs : s.size ≤ maxLen) (hp : p ≤ s.size) :
    (∃ (x : Int) (q : Nat), Fine x ∧ D s p = encB x ++ D s q ∧ q ≤ s.size ∧
      ∀ w, Calls Tryd.prog 92 #[.string s, .int .i64 p] w fun e w' => e = .returned (.tuple #[.int .i64 x, .int .i64 q, .int .i64 0]) ∧ Below w.heap.size w w') ∨
    (getL (D s p) = none ∧ ∀ w, Calls Tryd.prog 92 #[.string s, .int .i64 p] w fun e w' => e = .returned (.tuple #[.int .i64 0, .int .i64 0, .int .i64 14]) ∧ Below w.heap.size w w') := by
  have hi : (p : Int) ≤ 9223372036854775807 := by unfold maxLen at hs; omega
  have G := fun w => refget_any s (p : Int) w hs hi
  cases h : getL (D s p) with
  | none =>
    refine .inr ⟨rfl, fun w => ?_⟩
    have := G w
    rw [getR_none (k := p) h] at this
    exact this
  | some xj =>
    obtain ⟨x, j⟩ := xj
    obtain ⟨hf, hl, hj⟩ := getL_sound _ _ _ h
    have hq : p + j ≤ s.size := by
      have := congrArg List.length hl
      rw [List.length_append, List.length_drop, D_len, ← hj] at this
      omega
    refine .inl ⟨x, p + j, hf, ?_, hq, fun w => ?_⟩
    · rw [hl]; congr 1; unfold D; rw [List.drop_drop]
    · have := G w
      rw [getR_some (k := p) h] at this
      exact this

/-- The ranges that a list of numbers is taken for. -/
def rgAt (xs : List Int) (i : Nat) : Rg := ⟨nth xs (5 * i + 1), nth xs (5 * i + 2), nth xs (5 * i + 2) + nth xs (5 * i + 3), nth xs (5 * i + 4), nth xs (5 * i + 5)⟩
def rgs (xs : List Int) (k : Nat) : List Rg := (List.range k).map (rgAt xs)
theorem rgs_succ (xs : List Int) (k : Nat) : rgs xs (k + 1) = rgs xs k ++ [rgAt xs k] := by unfold rgs; rw [List.range_succ, List.map_append]; rfl
theorem rgs_len (xs : List Int) (k : Nat) : (rgs xs k).length = k := by unfold rgs; simp

theorem nth_flat : ∀ (R : List Rg) (i : Nat), i < R.length → ∀ (c : Int) (j : Nat), j < 5 → nth (c :: R.flatMap nums) (5 * i + (j + 1)) = nth (nums (rg R i)) j
  | [], _, h, _, _, _ => absurd h (by simp)
  | r :: R, 0, _, c, j, hj => by
    unfold nth; rw [List.flatMap_cons, Nat.mul_zero, Nat.zero_add]
    simp only [List.getD_eq_getElem?_getD, List.getElem?_cons_succ]
    rw [List.getElem?_append_left (by exact hj)]; rfl
  | r :: R, i + 1, h, c, j, hj => by
    have ih := nth_flat R i (by simpa using h) c j hj
    unfold nth at *
    rw [List.flatMap_cons]
    simp only [List.getD_eq_getElem?_getD] at *
    rw [show 5 * (i + 1) + (j + 1) = (5 * i + j + 5) + 1 by omega, List.getElem?_cons_succ, List.getElem?_append_right (by show 5 ≤ _; omega), show 5 * i + j + 5 - (nums r).length = 5 * i + j by show _ - 5 = _; omega]
    rw [show 5 * i + (j + 1) = (5 * i + j) + 1 by omega, List.getElem?_cons_succ] at ih
    rw [ih]; rfl

theorem rgs_flat (R : List Rg) : rgs (flat R) R.length = R := by
  apply List.ext_getElem?
  intro i
  by_cases hi : i < R.length
  · have e : R[i]? = some (rg R i) := by unfold rg; rw [List.getD_eq_getElem?_getD, List.getElem?_eq_getElem hi]; rfl
    rw [e]; unfold rgs; rw [List.getElem?_map, List.getElem?_range hi]
    have k := nth_flat R i hi (R.length : Int)
    show some (rgAt (flat R) i) = _
    unfold rgAt flat
    rw [show 5 * i + 1 = 5 * i + (0 + 1) by omega, show 5 * i + 2 = 5 * i + (1 + 1) by omega, show 5 * i + 3 = 5 * i + (2 + 1) by omega, show 5 * i + 4 = 5 * i + (3 + 1) by omega, show 5 * i + 5 = 5 * i + (4 + 1) by omega,
      k 0 (by decide), k 1 (by decide), k 2 (by decide), k 3 (by decide), k 4 (by decide)]
    have e3 : nth (nums (rg R i)) 1 + nth (nums (rg R i)) 2 = (rg R i).t := by show (rg R i).f + ((rg R i).t - (rg R i).f) = _; omega
    rw [e3]; rfl
  · rw [List.getElem?_eq_none (by rw [rgs_len]; omega), List.getElem?_eq_none (by omega)]

/-- If the string holds a table, what was read is that table. -/
theorem read_all {s : ByteArray} {xs : List Int} {p : Nat} {R : List Rg} (hx : ∀ x ∈ xs, Fine x) (h : s.data.toList = bytesOf xs ++ D s p) (hend : s.size ≤ p ∨ 1002 ≤ xs.length) (ht : TabS s R) : xs = flat R := by
  have hl : (flat R).length ≤ 1001 := by have := isTab_len ht.1; unfold flat; rw [List.length_cons, flatMap_len]; omega
  have e : bytesOf (flat R) ++ [] = bytesOf xs ++ D s p := by rw [List.append_nil, ht.2, h]
  rcases hend with he | he
  · have hD : D s p = [] := List.length_eq_zero_iff.1 (by rw [D_len]; omega)
    rw [hD, List.append_nil, List.append_nil] at e
    exact (bytesOf_inj (flat_fine ht.1) hx e).symm
  · obtain ⟨zs, e1, e2⟩ := uniq _ _ _ _ (flat_fine ht.1) hx (by omega) e
    match zs with
    | [] => rw [e1, List.append_nil]
    | z :: zs =>
      have := getL_enc (hx z (by rw [e1]; simp)) (bytesOf zs ++ D s p)
      rw [← List.append_assoc, ← bytesOf_cons, ← e2] at this; cases this

theorem read_stuck {s : ByteArray} {xs : List Int} {p : Nat} (hx : ∀ x ∈ xs, Fine x) (h : s.data.toList = bytesOf xs ++ D s p) (hp : p < s.size) (hn : getL (D s p) = none) : ∀ R, ¬ TabS s R := by
  intro R ht
  have e : bytesOf xs ++ D s p = bytesOf (flat R) ++ [] := by rw [List.append_nil, ht.2, h]
  by_cases hl : xs.length < (flat R).length
  · exact none_short hx (flat_fine ht.1) hl e hn
  · obtain ⟨zs, e1, e2⟩ := uniq _ _ _ _ (flat_fine ht.1) hx (by omega) e.symm
    have := congrArg List.length e2
    rw [List.length_append, D_len] at this
    simp at this; omega

theorem rgs_tab {s : ByteArray} {xs : List Int} {p : Nat} {R : List Rg} {n : Nat} (hx : ∀ x ∈ xs, Fine x) (h : s.data.toList = bytesOf xs ++ D s p) (hend : s.size ≤ p ∨ 1002 ≤ xs.length) (hn : 5 * n + 5 ≥ xs.length ∧ 5 * n + 1 ≤ xs.length ∨ n = 0 ∧ xs.length ≤ 5) (ht : TabS s R) : rgs xs n = R := by
  have e := read_all hx h hend ht
  have hl : xs.length = 1 + 5 * R.length := by rw [e]; unfold flat; rw [List.length_cons, flatMap_len]; omega
  have : n = R.length := by omega
  rw [this, e, rgs_flat]

end Go.Proofs.YtoepcplbpochpaaDoor

/-
  The walk of lodgeref.Decode.
-/
namespace Go.Proofs.YtoepcplbpochpaaDoor
open Go.RowKit

/-- Numbers that are owned: the value's form, and its cells. -/
theorem own_ints {w : World} {base : Nat} {v : Value} {xs : List Int} (h : w.ownsRow base 3 1 v xs.length (xs.map (Value.int .i64))) :
    ∃ ao cap, v = .slice ao xs.length cap ∧ (0 < xs.length → ∃ g, ao = some ⟨g, 0, none⟩ ∧ g < w.heap.size ∧ ∀ i, i < xs.length → w.cell? ⟨g, i, none⟩ = some (.int .i64 (nth xs i))) := by
  rcases h.2 with ⟨rfl, h0⟩ | ⟨g, cap, cur, rfl, h2, h3, h4, h5, h6, h7⟩
  · exact ⟨none, 0, by rw [h0], fun h => by omega⟩
  · refine ⟨some ⟨g, 0, none⟩, cap, rfl, fun _ => ⟨g, rfl, (Array.getElem?_eq_some_iff.1 h3).1, fun i hi => ?_⟩⟩
    rw [h.cellAt i (by omega)]
    unfold nth; rw [List.getD_eq_getElem?_getD, List.getElem?_map, List.getElem?_eq_getElem hi]; rfl

theorem fine_nth {xs : List Int} (h : ∀ x ∈ xs, Fine x) {i : Nat} (hi : i < xs.length) : Fine (nth xs i) := by
  unfold nth; rw [List.getD_eq_getElem?_getD, List.getElem?_eq_getElem hi]; exact h _ (List.getElem_mem hi)

set_option maxRecDepth 100000 in
set_option maxHeartbeats 2000000 in
theorem refDecode_any (s : ByteArray) (w : World) (hs : s.size ≤ maxLen) : Calls Tryd.prog 60 #[.string s] w fun e w' => DecPost s w e w' := by
  obtain ⟨i0, hi, hz0, hz1, hz2⟩ := info_parts Tryd.intInfo
  have hs0 := hide hs
  unfold maxLen at hs
  go_enter Tryd.func60, Tryd.ntmps60
  go_wp2_with fail
  go_loopw [4, 5] (fun v a wr => ∃ (p : Nat) (xs : List Int), a = .int .i64 p ∧ p ≤ s.size ∧ xs.length ≤ 1002 ∧ (∀ x ∈ xs, Fine x) ∧ s.data.toList = bytesOf xs ++ D s p ∧ wr.ownsRow w.heap.size 3 1 v xs.length (xs.map (Value.int .i64)) ∧ Below w.heap.size w wr) (fun _ a _ => s.size - (intOf a).toNat)
  case atStart => exact ⟨0, [], rfl, Nat.zero_le _, Nat.zero_le _, by simp, rfl, World.ownsRow_nil _ _ _ _, Below.refl _ _⟩
  case round =>
    obtain ⟨p, xs, rfl, hp, hxl, hfine, hread, hown, hbel⟩ := hrel
    have HF := hide hfine
    have HR := hide hread
    have hB := hbel.size
    clear hfine hread
    by_cases hgo : p < s.size ∧ xs.length < 1002
    · obtain ⟨hps, hx1⟩ := hgo
      obtain ⟨ao, cap, hv, hcs⟩ := own_ints hown
      subst hv
      have HCS := hide hcs
      clear hcs
      rcases rgives_or s p (unhide hs0) hp with ⟨x, q, hf, he, hq, C⟩ | ⟨hn, C⟩
      · have hlen : p < q := by
          have := congrArg List.length he
          rw [List.length_append, D_len, D_len] at this
          have h3 : 1 ≤ (encB x).length := by unfold encB; rw [List.length_map, enc_len]; split <;> (try split) <;> omega
          omega
        have hn : Hid (s.data.toList = bytesOf (xs ++ [x]) ++ D s q) := by
          have := unhide HR
          rw [he] at this
          unfold Hid
          rw [this, bytesOf_app, List.append_assoc]; simp [bytesOf_cons, bytesOf_nil]
        have hf2 : Hid (∀ y ∈ xs ++ [x], Fine y) := fun y hy => by
          rw [List.mem_append, List.mem_singleton] at hy
          rcases hy with hy | rfl
          · exact unhide HF y hy
          · exact hf
        have CC := hide C
        clear C hf he
        go_wp2_with fail
        refine (unhide CC _).mono ?_
        rintro e w1 ⟨rfl, hb1⟩
        have hB1 := hb1.size
        have hown1 := own_below hown hb1
        clear hown
        go_wp2_with (at_builtin; refine wpList_append_own _ rfl _ _ 32 rfl w.heap.size 3 i0 (.int .i64 0) 1 8 Tryd.underlying32 hi hz0 hz1 hz2 rfl (by decide) _ _ _ rfl (hown1.alloc _) ⟨w1.heap.size, 0, none⟩ 1 1 [.int .i64 x] rfl rfl ?c1 ?c2 ?c3 ?c4 ?c5 ?_)
        case c1 => exact cells_new _ _ (by simp) 3 _
        case c2 => intro u hu; simp only [List.mem_cons, List.not_mem_nil, or_false] at hu; subst hu; rfl
        case c3 => unfold maxLen; omega
        case c4 => omega
        case c5 => simp; omega
        intro v' w2 hown' hgrow _
        have hb2 : Below w.heap.size w w2 := ((hbel.trans (hb1.mono hbel.size)).alloc (by omega) _).grown hgrow (by simp; omega) (own_ge hown1)
        have hO : w2.ownsRow w.heap.size 3 1 v' (xs ++ [x]).length ((xs ++ [x]).map (Value.int .i64)) := by
          rw [List.length_append, List.map_append]; exact hown'
        clear hgrow hown' hown1
        go_wp2
        go_roundw
        case rel => exact ⟨q, xs ++ [x], rfl, hq, by rw [List.length_append]; show xs.length + 1 ≤ 1002; omega, unhide hf2, unhide hn, hO, hb2⟩
        case measure => simp [intOf]; omega
      · have hno := hide (read_stuck (unhide HF) (unhide HR) hps hn)
        have CC := hide C
        clear C hn
        go_wp2_with fail
        refine (unhide CC _).mono ?_
        rintro e w1 ⟨rfl, hb1⟩
        go_wp2
        go_ret2
        exact ⟨hbel.trans (hb1.mono hbel.size), .inr ⟨unhide hno, rfl⟩⟩
    · have hend : s.size ≤ p ∨ 1002 ≤ xs.length := by omega
      have HE := hide hend
      obtain ⟨wA, hA⟩ : ∃ wA, wA = wr := ⟨_, rfl⟩
      subst hA
      obtain ⟨ao, cap, hv, hcs⟩ := own_ints hown
      subst hv
      have HCS := hide hcs
      clear hcs hgo hown
      obtain ⟨j0, hj, hy0, hy1, hy2⟩ := info_parts Tryd.info132
      by_cases hps : p < s.size
      all_goals
        have hx2 : p < s.size → 1002 ≤ xs.length := fun h => by omega
        clear hend
        first | (have hx3 : 1002 ≤ xs.length := hx2 (by assumption)) | skip
        clear hx2
        go_wp2_with fail
        go_loopw [9, 10] (fun l i wr => ∃ k j : Nat, i = .int .i64 j ∧ Hid (j = 5 * k + 1) ∧ (k = 0 ∨ 5 * k + 1 ≤ xs.length) ∧ wr.ownsRow wA.heap.size 132 5 l k (cellsOf (rgs xs k)) ∧ Below wA.heap.size wA wr) (fun _ i _ => xs.length - (intOf i).toNat)
        case atStart => exact ⟨0, 1, rfl, rfl, .inl rfl, World.ownsRow_nil _ _ _ _, Below.refl _ _⟩
        case round =>
          obtain ⟨k, j, rfl, HJ, hk, hown2, hbel2⟩ := hrel
          have hB2 := hbel2.size
          have hk1 : 5 * k ≤ 1006 := by omega
          have hj1 : j ≤ 1007 := by have := unhide HJ; omega
          by_cases hlt : j + 4 < xs.length
          · obtain ⟨g, rfl, hg, hcell⟩ := unhide HCS (by omega)
            have hcw : ∀ i, i < xs.length → wr.cell? ⟨g, i, none⟩ = some (.int .i64 (nth xs i)) := fun i hi => (hbel2.cell hg).trans (hcell i hi)
            have c0 := hcw j (by omega)
            have c1 := hcw (j + 1) (by omega)
            have c2 := hcw (j + 2) (by omega)
            have c3 := hcw (j + 3) (by omega)
            have c4 := hcw (j + 4) (by omega)
            have HF1 := fine_nth (unhide HF) (show j + 1 < xs.length by omega)
            have HF2 := fine_nth (unhide HF) (show j + 2 < xs.length by omega)
            have a1 : IntKind.i64.wrap ((j : Int) + 1) = (j : Int) + 1 := by rw [IntKind.wrap_i64]; omega
            have a2 : IntKind.i64.wrap ((j : Int) + 2) = (j : Int) + 2 := by rw [IntKind.wrap_i64]; omega
            have a3 : IntKind.i64.wrap ((j : Int) + 3) = (j : Int) + 3 := by rw [IntKind.wrap_i64]; omega
            have a4 : IntKind.i64.wrap ((j : Int) + 4) = (j : Int) + 4 := by rw [IntKind.wrap_i64]; omega
            have a5 : IntKind.i64.wrap (nth xs (j + 1) + nth xs (j + 2)) = nth xs (j + 1) + nth xs (j + 2) := by rw [IntKind.wrap_i64]; have := HF1; have := HF2; unfold Fine at *; omega
            have b0 : (j : Int) < (xs.length : Int) := by omega
            have b1 : (j : Int) + 1 < (xs.length : Int) := by omega
            have b2 : (j : Int) + 2 < (xs.length : Int) := by omega
            have b3 : (j : Int) + 3 < (xs.length : Int) := by omega
            have b4 : (j : Int) + 4 < (xs.length : Int) := by omega
            have d0 : (0 : Int) ≤ (j : Int) := by omega
            have d1 : (0 : Int) ≤ (j : Int) + 1 := by omega
            have d2 : (0 : Int) ≤ (j : Int) + 2 := by omega
            have d3 : (0 : Int) ≤ (j : Int) + 3 := by omega
            have d4 : (0 : Int) ≤ (j : Int) + 4 := by omega
            have t1 : ((j : Int) + 1).toNat = j + 1 := by omega
            have t2 : ((j : Int) + 2).toNat = j + 2 := by omega
            have t3 : ((j : Int) + 3).toNat = j + 3 := by omega
            have t4 : ((j : Int) + 4).toNat = j + 4 := by omega
            have hng : ∀ k, Value.ownBlock u9 = some k → wA.heap.size ≤ k := own_ge hown2
            have hne : some g ≠ Value.ownBlock u9 := fun h => by have := hng g h.symm; omega
            have HN := hide hne
            have HG := hide hng
            clear HF1 HF2 hne hng
            go_wp2_with fail
            go_region_held3 (fun w' => w'.cell? ⟨g, j, none⟩ = some (.int .i64 (nth xs (j))) ∧ w'.cell? ⟨g, j + 1, none⟩ = some (.int .i64 (nth xs (j + 1))) ∧ w'.cell? ⟨g, j + 2, none⟩ = some (.int .i64 (nth xs (j + 2))) ∧ w'.cell? ⟨g, j + 3, none⟩ = some (.int .i64 (nth xs (j + 3))) ∧ w'.cell? ⟨g, j + 4, none⟩ = some (.int .i64 (nth xs (j + 4))))
              (first
                | go_keep
                | (go_split_ands
                   refine ⟨?_, ?_, ?_, ?_, ?_⟩
                   all_goals (rw [hgrow.cell_far _ (by simp; omega) (unhide HN)]; assumption)))
              ((refine step_append_lies _ (by rfl) _ _ _ (by rfl) wA.heap.size 132 j0 _ 5 40 Tryd.underlying93 hj hy0 hy1 hy2 rfl (by omega) u9 k (cellsOf (rgs xs k)) (by rfl) ((hown2.alloc _).drew)
                  ⟨wr.heap.size, 0, none⟩ 1 1 [.int .i64 (nth xs j), .int .i64 (nth xs (j + 1)), .int .i64 (nth xs (j + 1) + nth xs (j + 2)), .int .i64 (nth xs (j + 3)), .int .i64 (nth xs (j + 4))] (by rfl) (by rfl) (World.news_of_block (cs := #[.int .i64 (nth xs j), .int .i64 (nth xs (j + 1)), .int .i64 (nth xs (j + 1) + nth xs (j + 2)), .int .i64 (nth xs (j + 3)), .int .i64 (nth xs (j + 4))]) (t := 132) (fr := (0, 0)) (heap_alloc_new wr _)) (by simp [Value.oneCell'])
                  (by omega) (by unfold maxLen; omega) (by omega) (by simp; omega) (wr.heap.size + 1) (by simp) ?_; intro gg cap2 w2 hown3 hgrow hat hglt))
            have hO : w2.ownsRow wA.heap.size 132 5 (.slice (some ⟨gg, 0, none⟩) (k + 1) cap2) (k + 1) (cellsOf (rgs xs (k + 1))) := by
              have e : rgAt xs k = ⟨nth xs j, nth xs (j + 1), nth xs (j + 1) + nth xs (j + 2), nth xs (j + 3), nth xs (j + 4)⟩ := by rw [unhide HJ]; rfl
              rw [rgs_succ, cellsOf_snoc, e]; exact hown3
            have hb3 : Below wA.heap.size wA w2 := ((hbel2.alloc hbel2.size _).drew).grown hgrow (by simp; omega) (unhide HG)
            clear hown3 hgrow hown2
            go_wp2
            go_roundw
            case rel => exact ⟨k + 1, j + 5, by go_num, (by have := unhide HJ; unfold Hid; omega), .inr (by have := unhide HJ; omega), hO, hb3⟩
            case measure => simp [intOf]; omega
          · have hn5 : 5 * k + 5 ≥ xs.length ∧ 5 * k + 1 ≤ xs.length ∨ k = 0 ∧ xs.length ≤ 5 := by have := unhide HJ; omega
            have HT : Hid (∀ R, TabS s R → rgs xs k = R) := fun R h => rgs_tab (unhide HF) (unhide HR) (unhide HE) hn5 h
            have hown4 : wr.ownsRow wA.heap.size 132 5 u9 (rgs xs k).length (cellsOf (rgs xs k)) := by rw [rgs_len]; exact hown2
            clear hown2
            obtain ⟨ao2, cap2, hv2, hheld, hlen2, _, _⟩ := own_held hown4
            subst hv2
            have T := hide (fun w (h : Held w ao2 (rgs xs k)) => refEncode_any (rgs xs k) ao2 cap2 w h (by unfold maxLen at hlen2; omega))
            have HO := hide hown4
            have HH := hide hheld
            clear hn5 hown4 hheld
            have hbl := hbel.trans (hbel2.mono hbel.size)
            cases ht : isTab (rgs xs k)
            · have hno : Hid (∀ R, ¬ TabS s R) := fun R h => by
                have := h.1; rw [← unhide HT R h, ht] at this; cases this
              rw [encV_no ht] at T
              clear ht
              go_wp2_with fail
              refine (unhide T _ (unhide HH)).mono ?_
              rintro e w1 ⟨rfl, hb1⟩
              go_wp2
              go_ret2
              exact ⟨hbl.trans (hb1.mono hbl.size), .inr ⟨unhide hno, rfl⟩⟩
            · rw [encV_yes ht] at T
              by_cases hq : bytesOf (flat (rgs xs k)) = s.data.toList
              · have hyes : Hid (TabS s (rgs xs k)) := ⟨ht, hq⟩
                have hbe : ((encAll (rgs xs k)).toList == s.toList) = true := by
                  rw [ByteArray.toList_eq, ByteArray.toList_eq]; show (bytesOf (flat (rgs xs k)) == _) = true; rw [hq]; simp
                clear ht hq
                go_wp2_with fail
                refine (unhide T _ (unhide HH)).mono ?_
                rintro e w1 ⟨rfl, hb1⟩
                go_wp2
                go_ret2
                refine ⟨hbl.trans (hb1.mono hbl.size), .inl ⟨_, _, unhide hyes, rfl, ?_⟩⟩
                exact own_weakR (own_below (unhide HO) hb1) hbel.size
              · have hno : Hid (∀ R, ¬ TabS s R) := fun R h => hq (by rw [unhide HT R h]; exact h.2)
                have hbe : ((encAll (rgs xs k)).toList == s.toList) = false := by
                  rw [ByteArray.toList_eq, ByteArray.toList_eq]; show (bytesOf (flat (rgs xs k)) == _) = false; simpa using hq
                clear ht hq
                go_wp2_with fail
                refine (unhide T _ (unhide HH)).mono ?_
                rintro e w1 ⟨rfl, hb1⟩
                go_wp2
                go_ret2
                exact ⟨hbl.trans (hb1.mono hbl.size), .inr ⟨unhide hno, rfl⟩⟩
end Go.Proofs.YtoepcplbpochpaaDoor
