/-
  The walk of lodgekeep.Round, out of the contracts of table, Encode, Decode and spoilt.
-/
import Derived.Test.YtoepcplbpochpaaSpoilt
import Derived.Test.YtoepcplbpochpaaTablesYes
namespace Go.Proofs.Ytoepcplbpochpaa
open Go.RowKit

/-! ### The plain mathematics -/
theorem encAll_data (Q : List Rg) : (encAll Q).data.toList = bytesOf (flat Q) := by unfold encAll; rw [wrS_data]
theorem zero_bytes : (⟨#[0]⟩ : ByteArray).data.toList = bytesOf [0] := by rw [bytesOf_cons, bytesOf_nil, encB_one (by decide)]; rfl
theorem tab_self {Q : List Rg} (h : isTab Q = true) : Tab (encAll Q) Q := ⟨h, (encAll_data Q).symm⟩

theorem app_data2 (a b : ByteArray) : (a ++ b).data.toList = a.data.toList ++ b.data.toList := by simp

theorem bytes_ne (Q : List Rg) : bytesOf (flat Q) ≠ [] := by
  unfold flat; rw [bytesOf_cons]
  have h3 : 1 ≤ (encB (Q.length : Int)).length := by unfold encB; rw [List.length_map, enc_len]; split <;> (try split) <;> omega
  intro h
  have := congrArg List.length h
  rw [List.length_append] at this
  simp only [List.length_nil] at this
  omega

theorem encB_pos (x : Int) : 1 ≤ (encB x).length := by unfold encB; rw [List.length_map, enc_len]; split <;> (try split) <;> omega
theorem bytesOf_len_ge : ∀ l : List Int, l.length ≤ (bytesOf l).length
  | [] => Nat.le_refl _
  | x :: l => by rw [bytesOf_cons, List.length_append, List.length_cons]; have := encB_pos x; have := bytesOf_len_ge l; omega

theorem flat_len (Q : List Rg) : (flat Q).length = 1 + 5 * Q.length := by unfold flat; rw [List.length_cons, flatMap_len]; omega

theorem no_longer {Q : List Rg} (h : isTab Q = true) : ∀ R, ¬ Tab (encAll Q ++ ⟨#[0]⟩) R := by
  intro R ht
  have e : bytesOf (flat R) = bytesOf (flat Q ++ [0]) := by
    rw [ht.2, app_data2, bytesOf_app, encAll_data, zero_bytes]
  have := bytesOf_inj (flat_fine ht.1) (fun x hx => by
    rw [List.mem_append, List.mem_singleton] at hx
    rcases hx with hx | rfl
    · exact flat_fine h x hx
    · exact ⟨by decide, by decide⟩) e
  have := congrArg List.length this
  rw [List.length_append, flat_len, flat_len] at this
  simp only [List.length_cons, List.length_nil] at this
  omega

theorem no_shorter {Q : List Rg} {s : ByteArray} (h : isTab Q = true) (hs : s.data.toList = (bytesOf (flat Q)).dropLast) : ∀ R, ¬ Tab s R := by
  intro R ht
  have e : bytesOf (flat R) ++ [(bytesOf (flat Q)).getLast (bytes_ne Q)] = bytesOf (flat Q) ++ [] := by
    rw [List.append_nil, ht.2, hs, List.dropLast_concat_getLast]
  by_cases hl : (flat R).length ≤ (flat Q).length
  · obtain ⟨zs, e1, e2⟩ := uniq _ _ _ _ (flat_fine ht.1) (flat_fine h) hl e
    rw [List.append_nil] at e2
    have h1 := congrArg List.length e2
    have h2 := bytesOf_len_ge zs
    simp only [List.length_cons, List.length_nil] at h1
    have h3 := congrArg List.length e1
    rw [List.length_append, flat_len, flat_len] at h3
    have h4 : zs.length ≠ 0 := fun h0 => by
      rw [List.length_eq_zero_iff.1 h0] at h1; simp [bytesOf_nil] at h1
    omega
  · obtain ⟨zs, e1, e2⟩ := uniq _ _ _ _ (flat_fine h) (flat_fine ht.1) (by omega) e.symm
    have := congrArg List.length e2
    rw [List.length_append] at this
    simp at this

theorem spoilt_held (Q : List Rg) (ao : Option Addr) (cap : Nat) (w : World) (hH : Held w ao Q) (hT : isTab Q = true) (hc : Q.length ≤ cap) :
    Calls Try.prog 18 #[.slice ao Q.length cap] w fun e w' => e = .returned (.bool true) ∧ Below w.heap.size w w' := by
  have hl := isTab_len hT
  by_cases h : Q.length = 0 ∨ 200 ≤ Q.length
  · exact spoilt_small Q ao cap w h hl
  · cases Q with
    | nil => simp at h
    | cons x T =>
      rcases hH with h0 | ⟨b, off, rfl, hb, hL⟩
      · cases h0
      · rw [List.length_cons] at *
        exact spoilt_any x T b off cap w hL hb hT (by omega) hc

/-- What is owned, as a slice, with its capacity. -/
theorem own_cap {w : World} {base : Nat} {v : Value} {R : List Rg} (h : w.ownsRow base 30 5 v R.length (cellsOf R)) :
    ∃ ao cap, v = .slice ao R.length cap ∧ Held w ao R ∧ R.length ≤ cap := by
  rcases own_form h with ⟨rfl, hh, h0⟩ | ⟨g, cap, cur, rfl, _, _, _, _, _, hl, hh⟩
  · exact ⟨_, _, rfl, hh, by omega⟩
  · exact ⟨_, _, rfl, hh, hl⟩

set_option maxRecDepth 100000 in
set_option maxHeartbeats 2000000 in
theorem round_no (vr : Value) (s : ByteArray) (w : World) (hs : s.size ≤ maxLen) (hN : ∀ R, ¬ Tab s R)
    (TB : Hid (Calls Try.prog 17 #[vr] w fun e w' => ∃ Q v, isTab Q = true ∧ e = .returned v ∧ w'.ownsRow w.heap.size 30 5 v Q.length (cellsOf Q) ∧ Below w.heap.size w w')) :
    Calls Try.prog 6 #[vr, .string s] w fun e w' => e = .returned (.bool true) ∧ Below w.heap.size w w' := by
  have D4 := hide (fun w => decode_no hs hN w)
  clear hs hN
  go_enter Try.func6, Try.ntmps6
  go_wp2_with fail
  refine (unhide TB).mono ?_
  rintro e w1 ⟨Q, v, hT, rfl, ho, hb1⟩
  obtain ⟨a1, c1, rfl, hh1, hcap⟩ := own_cap ho
  have hl200 := isTab_len hT
  have hsz : (encAll Q).size ≤ 3003 := by
    have := wrS_size_le (flat Q); rw [flat_len] at this; show (wrS (flat Q)).size ≤ 3003; omega
  have hsp : 1 ≤ (encAll Q).size := by
    rw [Lib.size_eq, encAll_data]; have := List.length_pos_iff.2 (bytes_ne Q); omega
  have hne : (encAll Q).toList.isEmpty = false := by
    rw [ByteArray.toList_eq, encAll_data]; simpa using bytes_ne Q
  have E := hide (fun w ao cap (h : Held w ao Q) => encode_any Q ao cap w h (by omega))
  rw [encV_yes hT] at E
  have D1 := hide (fun w => decode_yes (show (encAll Q).size ≤ maxLen by unfold maxLen; omega) (tab_self hT) w)
  have D2 := hide (fun w => decode_no (s := encAll Q ++ ⟨#[0]⟩) (by rw [ByteArray.size_append]; show (encAll Q).size + 1 ≤ maxLen; unfold maxLen; omega) (no_longer hT) w)
  have D3 := hide (fun w => decode_no (s := (encAll Q).extract 0 ((encAll Q).size - 1)) (by rw [ByteArray.size_extract]; unfold maxLen; omega) (no_shorter hT (by
    rw [Lib.extract_data, encAll_data, List.drop_zero, Nat.sub_zero, List.dropLast_eq_take, Lib.size_eq, encAll_data])) w)
  have SP := hide (fun w ao cap (h : Held w ao Q) (hc : Q.length ≤ cap) => spoilt_held Q ao cap w h hT hc)
  have K1 := hide hh1
  clear ho hh1 hT
  go_wp2_with fail
  refine (unhide E _ _ _ (unhide K1)).mono ?_
  rintro e w2 ⟨rfl, hb2⟩
  have hb02 := hb1.trans (hb2.mono hb1.size)
  go_wp2_with fail
  refine (unhide D1 _).mono ?_
  rintro e w3 ⟨v3, rfl, ho3, hb3⟩
  obtain ⟨a3, c3, rfl, hh3, _⟩ := own_cap ho3
  have hb03 := hb02.trans (hb3.mono hb02.size)
  have hb13 := hb2.trans (hb3.mono hb2.size)
  have K13 := hide ((unhide K1).below hb13)
  have K3 := hide hh3
  clear ho3 hh3 hb02 hb2 hb3 K1
  go_wp2_with fail
  go_loopw [10] (fun i wr => ∃ k : Nat, k ≤ Q.length ∧ i = .int .i64 k ∧ Below w3.heap.size w3 wr) (fun i _ => Q.length - (intOf i).toNat)
  case atStart => exact ⟨0, Nat.zero_le _, rfl, Below.refl _ _⟩
  case round =>
    obtain ⟨k, hk, rfl, hbel⟩ := hrel
    by_cases hlt : k < Q.length
    · obtain ⟨b, off, rfl, hb, hl⟩ : ∃ b off, a1 = some ⟨b, off, none⟩ ∧ b < w3.heap.size ∧ Lie w3 b off Q := by
        rcases unhide K13 with h | h
        · subst h; exact absurd hlt (by simp)
        · exact h
      obtain ⟨b2, off2, rfl, hb2, hl2⟩ : ∃ b off, a3 = some ⟨b, off, none⟩ ∧ b < w3.heap.size ∧ Lie w3 b off Q := by
        rcases unhide K3 with h | h
        · subst h; exact absurd hlt (by simp)
        · exact h
      obtain ⟨x0, x1, x2, x3, x4⟩ := (hl k hlt).below hbel hb
      obtain ⟨d0, d1, d2, d3, d4⟩ := (hl2 k hlt).below hbel hb2
      have i3 : (k : Int) < (Q.length : Int) := by omega
      go_wp2_with fail
      go_quiet (fail)
      go_wp2
      go_roundw
      case rel => exact ⟨k + 1, by omega, by go_num, below_drewN hbel _⟩
      case measure => simp [intOf]; omega
    · have hb0 := hb03.trans (hbel.mono hb03.size)
      have K1 := hide ((unhide K13).below hbel)
      clear hbel K3 K13
      go_wp2_with fail
      refine (unhide D2 _).mono ?_
      rintro e w5 ⟨rfl, hb5⟩
      go_wp2_with fail
      refine (unhide D3 _).mono ?_
      rintro e w6 ⟨rfl, hb6⟩
      have hb46 := hb5.trans (hb6.mono hb5.size)
      have hb06 := hb0.trans (hb46.mono hb0.size)
      go_wp2_with fail
      refine (unhide SP _ _ _ ((unhide K1).below hb46) hcap).mono ?_
      rintro e w7 ⟨rfl, hb7⟩
      have hb07 := hb06.trans (hb7.mono hb06.size)
      go_wp2_with fail
      refine (unhide D4 _).mono ?_
      rintro e w8 ⟨rfl, hb8⟩
      go_wp2
      go_ret
      exact ⟨rfl, hb07.trans (hb8.mono hb07.size)⟩

set_option maxRecDepth 100000 in
set_option maxHeartbeats 2000000 in
theorem round_yes (vr : Value) (s : ByteArray) (w : World) (hs : s.size ≤ maxLen) (T : List Rg) (hN : Tab s T)
    (TB : Hid (Calls Try.prog 17 #[vr] w fun e w' => ∃ Q v, isTab Q = true ∧ e = .returned v ∧ w'.ownsRow w.heap.size 30 5 v Q.length (cellsOf Q) ∧ Below w.heap.size w w')) :
    Calls Try.prog 6 #[vr, .string s] w fun e w' => e = .returned (.bool true) ∧ Below w.heap.size w w' := by
  have D4 := hide (fun w => decode_yes hs hN w)
  have hlT := isTab_len hN.1
  have E4 := hide (fun w ao cap (h : Held w ao T) => encode_any T ao cap w h (by omega))
  rw [encV_yes hN.1] at E4
  have hbe : ((encAll T).toList == s.toList) = true := by rw [ByteArray.toList_eq, ByteArray.toList_eq, encAll_data, hN.2]; simp
  clear hs hN
  go_enter Try.func6, Try.ntmps6
  go_wp2_with fail
  refine (unhide TB).mono ?_
  rintro e w1 ⟨Q, v, hT, rfl, ho, hb1⟩
  obtain ⟨a1, c1, rfl, hh1, hcap⟩ := own_cap ho
  have hl200 := isTab_len hT
  have hsz : (encAll Q).size ≤ 3003 := by
    have := wrS_size_le (flat Q); rw [flat_len] at this; show (wrS (flat Q)).size ≤ 3003; omega
  have hsp : 1 ≤ (encAll Q).size := by
    rw [Lib.size_eq, encAll_data]; have := List.length_pos_iff.2 (bytes_ne Q); omega
  have hne : (encAll Q).toList.isEmpty = false := by
    rw [ByteArray.toList_eq, encAll_data]; simpa using bytes_ne Q
  have E := hide (fun w ao cap (h : Held w ao Q) => encode_any Q ao cap w h (by omega))
  rw [encV_yes hT] at E
  have D1 := hide (fun w => decode_yes (show (encAll Q).size ≤ maxLen by unfold maxLen; omega) (tab_self hT) w)
  have D2 := hide (fun w => decode_no (s := encAll Q ++ ⟨#[0]⟩) (by rw [ByteArray.size_append]; show (encAll Q).size + 1 ≤ maxLen; unfold maxLen; omega) (no_longer hT) w)
  have D3 := hide (fun w => decode_no (s := (encAll Q).extract 0 ((encAll Q).size - 1)) (by rw [ByteArray.size_extract]; unfold maxLen; omega) (no_shorter hT (by
    rw [Lib.extract_data, encAll_data, List.drop_zero, Nat.sub_zero, List.dropLast_eq_take, Lib.size_eq, encAll_data])) w)
  have SP := hide (fun w ao cap (h : Held w ao Q) (hc : Q.length ≤ cap) => spoilt_held Q ao cap w h hT hc)
  have K1 := hide hh1
  clear ho hh1 hT
  go_wp2_with fail
  refine (unhide E _ _ _ (unhide K1)).mono ?_
  rintro e w2 ⟨rfl, hb2⟩
  have hb02 := hb1.trans (hb2.mono hb1.size)
  go_wp2_with fail
  refine (unhide D1 _).mono ?_
  rintro e w3 ⟨v3, rfl, ho3, hb3⟩
  obtain ⟨a3, c3, rfl, hh3, _⟩ := own_cap ho3
  have hb03 := hb02.trans (hb3.mono hb02.size)
  have hb13 := hb2.trans (hb3.mono hb2.size)
  have K13 := hide ((unhide K1).below hb13)
  have K3 := hide hh3
  clear ho3 hh3 hb02 hb2 hb3 K1
  go_wp2_with fail
  go_loopw [10] (fun i wr => ∃ k : Nat, k ≤ Q.length ∧ i = .int .i64 k ∧ Below w3.heap.size w3 wr) (fun i _ => Q.length - (intOf i).toNat)
  case atStart => exact ⟨0, Nat.zero_le _, rfl, Below.refl _ _⟩
  case round =>
    obtain ⟨k, hk, rfl, hbel⟩ := hrel
    by_cases hlt : k < Q.length
    · obtain ⟨b, off, rfl, hb, hl⟩ : ∃ b off, a1 = some ⟨b, off, none⟩ ∧ b < w3.heap.size ∧ Lie w3 b off Q := by
        rcases unhide K13 with h | h
        · subst h; exact absurd hlt (by simp)
        · exact h
      obtain ⟨b2, off2, rfl, hb2, hl2⟩ : ∃ b off, a3 = some ⟨b, off, none⟩ ∧ b < w3.heap.size ∧ Lie w3 b off Q := by
        rcases unhide K3 with h | h
        · subst h; exact absurd hlt (by simp)
        · exact h
      obtain ⟨x0, x1, x2, x3, x4⟩ := (hl k hlt).below hbel hb
      obtain ⟨d0, d1, d2, d3, d4⟩ := (hl2 k hlt).below hbel hb2
      have i3 : (k : Int) < (Q.length : Int) := by omega
      go_wp2_with fail
      go_quiet (fail)
      go_wp2
      go_roundw
      case rel => exact ⟨k + 1, by omega, by go_num, below_drewN hbel _⟩
      case measure => simp [intOf]; omega
    · have hb0 := hb03.trans (hbel.mono hb03.size)
      have K1 := hide ((unhide K13).below hbel)
      clear hbel K3 K13
      go_wp2_with fail
      refine (unhide D2 _).mono ?_
      rintro e w5 ⟨rfl, hb5⟩
      go_wp2_with fail
      refine (unhide D3 _).mono ?_
      rintro e w6 ⟨rfl, hb6⟩
      have hb46 := hb5.trans (hb6.mono hb5.size)
      have hb06 := hb0.trans (hb46.mono hb0.size)
      go_wp2_with fail
      refine (unhide SP _ _ _ ((unhide K1).below hb46) hcap).mono ?_
      rintro e w7 ⟨rfl, hb7⟩
      have hb07 := hb06.trans (hb7.mono hb06.size)
      go_wp2_with fail
      refine (unhide D4 _).mono ?_
      rintro e w8 ⟨v8, rfl, ho8, hb8⟩
      obtain ⟨a8, c8, rfl, hh8, _⟩ := own_cap ho8
      have hb08 := hb07.trans (hb8.mono hb07.size)
      have K8 := hide hh8
      clear ho8 hh8
      go_wp2_with fail
      refine (unhide E4 _ _ _ (unhide K8)).mono ?_
      rintro e w9 ⟨rfl, hb9⟩
      go_wp2
      go_ret
      exact ⟨rfl, hb08.trans (hb9.mono hb08.size)⟩
end Go.Proofs.Ytoepcplbpochpaa
