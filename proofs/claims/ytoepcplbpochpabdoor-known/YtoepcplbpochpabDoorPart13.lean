/-
  What ir.Check answers of a program: the error and the place that the document's own check tells.
-/
import Derived.Test.YtoepcplbpochpabDoorPart12
import Derived.Test.YtoepcplbpochpabDoorPart9
import Derived.Test.YtoepcplbpochpabDoorPart6
import Derived.Test.YtoepcplbpochpabDoorPart7
import Derived.Great.BuildSlice
import Derived.Test.YtoepcplbpochpabDoorPart10
import Derived.Test.YtoepcplbpochpabDoorPart1
import Derived.Test.YtoepcplbpochpabDoorPart8
import Derived.Deep.RegionHeld3
import Derived.Handy

namespace Go.Proofs.YtoepcplbpochpabDoor
open Go.RowKit

def sizeB (P R V : Int) (n : Nat) : Bool := @ite _ (SizeBad P R V n) (decSize P R V n) false true
theorem sizeB_bad {P R V : Int} {n : Nat} (h : SizeBad P R V n) : sizeB P R V n = false := @if_pos _ (decSize _ _ _ _) h _ _ _
theorem sizeB_good {P R V : Int} {n : Nat} (h : ¬ SizeBad P R V n) : sizeB P R V n = true := @if_neg _ (decSize _ _ _ _) h _ _ _

set_option maxRecDepth 100000 in
set_option maxHeartbeats 2000000 in
theorem isSize_any (P R V : Int) (L : List In4) (ao : Option Addr) (cap : Nat) (w : World) (hn : L.length ≤ 9223372036854775807) :
    Calls Tryd.prog 39 #[.agg #[.int .i64 P, .int .i64 R, .int .i64 V, .slice ao L.length cap]] w fun e w' =>
      e = .returned (.bool (sizeB P R V L.length)) ∧ Below w.heap.size w w' := by
  by_cases hs : SizeBad P R V L.length
  · have HS := hide (sizeB_bad hs)
    have hcases : R < 1 ∨ (1 ≤ R ∧ 12 < R) ∨ (1 ≤ R ∧ R ≤ 12 ∧ P < 0) ∨ (1 ≤ R ∧ R ≤ 12 ∧ 0 ≤ P ∧ 4 < P) ∨ (1 ≤ R ∧ R ≤ 12 ∧ 0 ≤ P ∧ P ≤ 4 ∧ R < P) ∨ (1 ≤ R ∧ R ≤ 12 ∧ 0 ≤ P ∧ P ≤ 4 ∧ P ≤ R ∧ V < 0) ∨ (1 ≤ R ∧ R ≤ 12 ∧ 0 ≤ P ∧ P ≤ 4 ∧ P ≤ R ∧ 0 ≤ V ∧ 4 < V) ∨ (1 ≤ R ∧ R ≤ 12 ∧ 0 ≤ P ∧ P ≤ 4 ∧ P ≤ R ∧ 0 ≤ V ∧ V ≤ 4 ∧ L.length < 1) ∨ (1 ≤ R ∧ R ≤ 12 ∧ 0 ≤ P ∧ P ≤ 4 ∧ P ≤ R ∧ 0 ≤ V ∧ V ≤ 4 ∧ 1 ≤ L.length ∧ 40 < L.length) := by
      unfold SizeBad at hs; omega
    clear hs
    rcases hcases with h | ⟨g1, h⟩ | ⟨g1, g2, h⟩ | ⟨g1, g2, g3, h⟩ | ⟨g1, g2, g3, g4, h⟩ | ⟨g1, g2, g3, g4, g5, h⟩ | ⟨g1, g2, g3, g4, g5, g6, h⟩ | ⟨g1, g2, g3, g4, g5, g6, g7, h⟩ | ⟨g1, g2, g3, g4, g5, g6, g7, g8, h⟩
    all_goals
      go_enter Tryd.func39, Tryd.ntmps39
      go_wp2
      go_ret
      refine ⟨ret_bool ?_, (Below.refl _ _).alloc (Nat.le_refl _) _⟩
      rw [unhide HS]
      try (simp; omega)
  · have HS := hide (sizeB_good hs)
    unfold SizeBad at hs
    obtain ⟨g1, g2, g3, g4, g5, g6, g7, g8, g9⟩ : 1 ≤ R ∧ R ≤ 12 ∧ 0 ≤ P ∧ P ≤ 4 ∧ P ≤ R ∧ 0 ≤ V ∧ V ≤ 4 ∧ 1 ≤ L.length ∧ L.length ≤ 40 := by omega
    clear hs
    go_enter Tryd.func39, Tryd.ntmps39
    go_wp2
    go_ret
    refine ⟨ret_bool ?_, (Below.refl _ _).alloc (Nat.le_refl _) _⟩
    rw [unhide HS]
    try (simp; omega)

set_option maxRecDepth 100000 in
set_option maxHeartbeats 2000000 in
theorem irCheck_any (P R V : Int) (L : List In4) (ao : Option Addr) (cap : Nat) (w : World) (hH : HeldIns w ao L) (hn : L.length ≤ 9223372036854775807) (hT : Tab w) (hw0 : 0 < w.heap.size) :
    Calls Tryd.prog 22 #[.agg #[.int .i64 P, .int .i64 R, .int .i64 V, .slice ao L.length cap]] w fun e w' =>
      e = .returned (.tuple #[.int .i64 (progE P R V L).1, .int .i64 (progE P R V L).2]) ∧ Below w.heap.size w w' := by
  have KS := hide (fun w => isSize_any P R V L ao cap w hn)
  by_cases hs : SizeBad P R V L.length
  · have he := hide (progE_bad (L := L) hs)
    rw [sizeB_bad hs] at KS
    clear hs hT
    go_enter Tryd.func22, Tryd.ntmps22
    go_wp2_with (go_at_call 39; refine (unhide KS _).mono ?_; rintro e w2 ⟨rfl, hb2⟩)
    go_ret2
    exact ⟨ret2 (by rw [unhide he]) (by rw [unhide he]), ((Below.refl _ _).alloc (Nat.le_refl _) _).trans (hb2.mono (by simp))⟩
  have he := hide (progE_good (L := L) hs)
  rw [sizeB_good hs] at KS
  unfold SizeBad at hs
  have g8 : 1 ≤ L.length := by omega
  have KC := hide (fun w (hH : HeldIns w ao L) (hT : Tab w) (hw0 : 0 < w.heap.size) => codeCheck_any false R V 0 L ao cap w hH g8 hn hT hw0)
  rw [show (!false) = true from rfl, ← unhide he] at KC
  have HH := hide hH
  have HT := hide hT
  clear hs hH hT he g8
  go_enter Tryd.func22, Tryd.ntmps22
  go_wp2_with fail
  obtain ⟨w1, hw1⟩ : ∃ w1, w1 = w.alloc (.cells #[.int .i64 P, .int .i64 R, .int .i64 V, .slice ao L.length cap] 24) := ⟨_, rfl⟩
  rw [← hw1]
  have p1 : w1.cell? ⟨w.heap.size, 1, none⟩ = some (.int .i64 R) := by rw [hw1, World.cell?_alloc_at (hn := rfl)]; rfl
  have p2 : w1.cell? ⟨w.heap.size, 2, none⟩ = some (.int .i64 V) := by rw [hw1, World.cell?_alloc_at (hn := rfl)]; rfl
  have p3 : w1.cell? ⟨w.heap.size, 3, none⟩ = some (.slice ao L.length cap) := by rw [hw1, World.cell?_alloc_at (hn := rfl)]; rfl
  have hbel : Below w.heap.size w w1 := by rw [hw1]; exact (Below.refl _ _).alloc (Nat.le_refl _) _
  have hz : w.heap.size < w1.heap.size := by rw [hw1]; simp
  clear hw1
  refine (unhide KS w1).mono ?_
  rintro e w2 ⟨rfl, hb2⟩
  have hz2 : w.heap.size < w2.heap.size := Nat.lt_of_lt_of_le hz hb2.size
  have q1 := (hb2.cell (p := ⟨w.heap.size, 1, none⟩) hz).trans p1
  have q2 := (hb2.cell (p := ⟨w.heap.size, 2, none⟩) hz).trans p2
  have q3 := (hb2.cell (p := ⟨w.heap.size, 3, none⟩) hz).trans p3
  have HB2 : Hid (Below w.heap.size w w2) := hide (hbel.trans (hb2.mono (Nat.le_of_lt hz)))
  clear hb2 hbel p1 p2 p3
  go_wp2_with fail
  refine (unhide KC w2 ((unhide HH).below (unhide HB2)) ((unhide HT).below (unhide HB2) hw0) (by omega)).mono ?_
  rintro e w3 ⟨rfl, hb3⟩
  have HB3 : Hid (Below w.heap.size w w3) := hide ((unhide HB2).trans (hb3.mono (Nat.le_of_lt hz2)))
  clear hb3
  go_wp2_with fail
  go_ret2
  exact ⟨rfl, unhide HB3⟩
end Go.Proofs.YtoepcplbpochpabDoor

/-
  What leb.numberBytes, leb.rangeBytes and leb.Encode answer.
-/
namespace Go.Proofs.YtoepcplbpochpabDoor
open Go.RowKit

set_option maxHeartbeats 400000 in
theorem number_any (n0 : Int) (w : World) (h0 : 0 ≤ n0) (h1 : n0 ≤ 2097151) :
    Calls Tryd.prog 60 #[.int .i64 n0] w fun e w' => e = .returned (.string (numS n0)) ∧ Below w.heap.size w w' := by
  obtain ⟨i0, hi, hz0, hz1, hz2⟩ := info_parts Tryd.info5
  go_enter Tryd.func60, Tryd.ntmps60
  go_wp2
  go_loopw [0, 3] (fun n l wr => ∃ (m : Int) (xs : List Int), 0 ≤ m ∧ m ≤ 2097151 ∧ n = .int .i64 m ∧ xs ++ encI m = encI n0 ∧ wr.ownsRow w.heap.size 5 1 l xs.length (xs.map (Value.int .u8)) ∧ Below w.heap.size w wr) (fun n _ _ => (intOf n).toNat)
  case atStart => exact ⟨n0, [], h0, h1, rfl, rfl, World.ownsRow_nil _ _ _ _, Below.refl _ _⟩
  case round =>
    obtain ⟨m, xs, hm0, hm1, rfl, happ, hown, hbel⟩ := hrel
    have hx3 : (encI n0).length ≤ 3 := by unfold encI; split <;> (try split) <;> simp
    have hxl : xs.length ≤ 3 := by have := congrArg List.length happ; simp at this; omega
    have hB := hbel.size
    by_cases hm : 128 ≤ m
    · have hA : (xs ++ [m % 128 + 128]) ++ encI (m / 128) = encI n0 := by rw [← happ, enc_step hm hm1]; simp
      have HA := hide hA
      clear happ hA hx3
      go_wp2_with (at_builtin; refine wpList_append_own _ rfl _ _ 154 rfl w.heap.size 5 i0 (.int .u8 0) 1 1 Tryd.underlying154 hi hz0 hz1 hz2 rfl (by decide) _ _ _ rfl (hown.alloc _) ⟨wr.heap.size, 0, none⟩ 1 1 [.int .u8 (m % 128 + 128)] rfl rfl ?c1 ?c2 ?c3 ?c4 ?c5 ?_)
      case c1 => exact cell_one_new _ _ _
      case c2 => intro u hu; simp at hu; subst hu; rfl
      case c3 => unfold maxLen; omega
      case c4 => omega
      case c5 => first | omega | (simp; omega)
      intro v' w1 hown' hgrow _
      have hb1 : Below w.heap.size w w1 := (hbel.alloc hbel.size _).grown hgrow (by simp; omega) (own_ge hown)
      clear hgrow
      go_wp2
      go_roundw
      case rel => exact ⟨m / 128, xs ++ [m % 128 + 128], by omega, by omega, rfl, unhide HA, by simpa using hown', hb1⟩
      case measure => simp [intOf]; omega
    · have hA : xs ++ [m] = encI n0 := by rw [← happ, enc_one (by omega)]
      have HA := hide hA
      clear happ hA hx3
      go_wp2_with (at_builtin; refine wpList_append_own _ rfl _ _ 154 rfl w.heap.size 5 i0 (.int .u8 0) 1 1 Tryd.underlying154 hi hz0 hz1 hz2 rfl (by decide) _ _ _ rfl (hown.alloc _) ⟨wr.heap.size, 0, none⟩ 1 1 [.int .u8 m] rfl rfl ?d1 ?d2 ?d3 ?d4 ?d5 ?_)
      case d2 => first | rfl | simp
      case d3 => unfold maxLen; omega
      case d4 => omega
      case d5 => first | omega | (simp; omega)
      intro v' w1 hown' hgrow _
      have hb1 : Below w.heap.size w w1 := (hbel.alloc hbel.size _).grown hgrow (by simp; omega) (own_ge hown)
      have hcv := run_own_string (xs := xs ++ [m]) (n := xs.length + 1) (by simpa using hown') (by simp)
      clear hgrow
      go_wp2
      go_ret
      exact ⟨by unfold numS; rw [unhide HA]; rfl, hb1⟩

set_option maxRecDepth 100000 in
set_option maxHeartbeats 1000000 in
theorem rangeBytes_any (r : Rg) (w : World) (hr : isRg r = true) :
    Calls Tryd.prog 61 #[.agg #[.int .i64 r.v, .int .i64 r.f, .int .i64 r.t, .int .i64 r.k, .int .i64 r.a]] w fun e w' => e = .returned (.string (wrS (nums r))) ∧ Below w.heap.size w w' := by
  have hok := nums_ok hr
  have hb0 : 0 ≤ r.t - r.f ∧ r.t - r.f ≤ 65535 := hok 2 (by decide)
  obtain ⟨hb0, hb1⟩ := hb0
  have hb2 : 0 ≤ r.f ∧ r.f ≤ 65535 := hok 1 (by decide)
  obtain ⟨hb2, hb3⟩ := hb2
  go_enter Tryd.func61, Tryd.ntmps61
  go_wp2
  obtain ⟨W, hW, hcell, hsz, hBW⟩ : ∃ W, W = (w.alloc (.cells #[.int .i64 r.v, .int .i64 r.f, .int .i64 r.t, .int .i64 r.k, .int .i64 r.a] 109)).alloc (.cells #[.int .i64 r.v, .int .i64 r.f, .int .i64 (r.t - r.f), .int .i64 r.k, .int .i64 r.a] 139) ∧
      (∀ i, i < 5 → W.cell? ⟨w.heap.size + 1, i, none⟩ = some (.int .i64 (nth (nums r) i))) ∧ W.heap.size = w.heap.size + 2 ∧ Below w.heap.size w W := by
    refine ⟨_, rfl, ?_, by simp, ((Below.refl _ _).alloc (Nat.le_refl _) _).alloc (by simp) _⟩
    intro i hi
    rw [World.cell?_alloc_at (hn := by simp)]
    match i, hi with
    | 0, _ => rfl
    | 1, _ => rfl
    | 2, _ => rfl
    | 3, _ => rfl
    | 4, _ => rfl
  rw [← hW]
  have HZ := hide hsz
  clear hW hsz
  go_loopw [4, 5] (fun s i wr => ∃ k : Nat, k ≤ 5 ∧ i = .int .i64 k ∧ s = .string (wrS ((nums r).take k)) ∧ Below (w.heap.size + 2) W wr) (fun _ i _ => 5 - (intOf i).toNat)
  case atStart => exact ⟨0, Nat.zero_le _, rfl, rfl, Below.refl _ _⟩
  case round =>
    obtain ⟨k, hk, rfl, rfl, hbel⟩ := hrel
    by_cases hlt : k < 5
    · have hc := (hbel.cell (p := ⟨w.heap.size + 1, k, none⟩) (by simp)).trans (hcell k hlt)
      obtain ⟨r0, r1⟩ := hok k hlt
      have P := hide (fun w => number_any (nth (nums r) k) w r0 (by omega))
      have hs1 : (wrS ((nums r).take k)).size ≤ 300000 := by have := wrS_size_le ((nums r).take k); rw [List.length_take] at this; omega
      have hs2 : (numS (nth (nums r) k)).size ≤ 3 := by have := encB_le (nth (nums r) k); rw [Lib.size_eq, numS_data]; exact this
      have HS := hide (take_nth (nums r) k hlt)
      go_wp2_with fail
      refine (unhide P _).mono ?_
      rintro e w1 ⟨rfl, hb1⟩
      go_wp2
      go_roundw
      case rel => exact ⟨k + 1, by omega, by go_num, by rw [wrS_snoc, unhide HS], hbel.trans (hb1.mono (by have := hbel.size; rw [unhide HZ] at this; exact this))⟩
      case measure => simp [intOf]; omega
    · have hk5 : k = 5 := by omega
      have e := hide (show (nums r).take k = nums r by rw [hk5]; rfl)
      clear hk5
      go_wp2
      go_ret
      exact ⟨ret_str (by rw [unhide e]), hBW.trans (hbel.mono (by omega))⟩
set_option maxRecDepth 100000 in
set_option maxHeartbeats 1000000 in
theorem encode_any (R : List Rg) (ao : Option Addr) (cap : Nat) (w : World) (hH : Held w ao R) (hlen : R.length ≤ 9223372036854775807) :
    Calls Tryd.prog 34 #[.slice ao R.length cap] w fun e w' => e = .returned (encV R) ∧ Below w.heap.size w w' := by
  have T := hide (fun w (h : Held w ao R) => isTable_any R ao cap w h hlen)
  cases ht : isTab R
  · rw [encV_no ht]
    rw [ht] at T
    clear ht
    go_enter Tryd.func34, Tryd.ntmps34
    go_wp2_with fail
    refine (unhide T _ hH).mono ?_
    rintro e w1 ⟨rfl, hb1⟩
    go_wp2
    go_ret2
    exact ⟨rfl, hb1⟩
  · rw [encV_yes ht]
    rw [ht] at T
    have HT := hide ht
    have h200 := isTab_len ht
    have N := hide (fun w => number_any (R.length : Int) w (by omega) (by omega))
    clear ht
    go_enter Tryd.func34, Tryd.ntmps34
    go_wp2_with fail
    refine (unhide T _ hH).mono ?_
    rintro e w1 ⟨rfl, hb1⟩
    go_wp2_with fail
    refine (unhide N _).mono ?_
    rintro e w2 ⟨rfl, hb2⟩
    have hB := hb1.trans (hb2.mono hb1.size)
    clear hb1 hb2
    go_wp2_with fail
    go_loopw [4, 5] (fun s i wr => ∃ k : Nat, k ≤ R.length ∧ i = .int .i64 k ∧ s = .string (wrS (flatTo R k)) ∧ Below w.heap.size w wr) (fun _ i _ => R.length - (intOf i).toNat)
    case atStart => exact ⟨0, Nat.zero_le _, rfl, by rw [numS_wr]; unfold flatTo; simp, hB⟩
    case round =>
      obtain ⟨k, hk, rfl, rfl, hbel⟩ := hrel
      have hs1 : (wrS (flatTo R k)).size ≤ 300000 := by have := wrS_size_le (flatTo R k); have := flatTo_len R k; omega
      by_cases hlt : k < R.length
      · have hrg := isTab_rg (unhide HT) hlt
        have P := hide (fun w => rangeBytes_any (rg R k) w hrg)
        have hs2 : (wrS (nums (rg R k))).size ≤ 15 := wrS_size_le _
        have HS := hide (flatTo_succ R k hlt)
        obtain ⟨b, off, rfl, hb, hl⟩ : ∃ b off, ao = some ⟨b, off, none⟩ ∧ b < w.heap.size ∧ Lie w b off R := by
          rcases hH with h | h
          · subst h; exact absurd hlt (by simp)
          · exact h
        obtain ⟨c0, c1, c2, c3, c4⟩ := (hl k hlt).below hbel hb
        clear hrg
        go_wp2_with fail
        refine (unhide P _).mono ?_
        rintro e w1 ⟨rfl, hb1⟩
        go_wp2
        go_roundw
        case rel => exact ⟨k + 1, by omega, by go_num, by rw [wrS_app, unhide HS], hbel.trans (hb1.mono hbel.size)⟩
        case measure => simp [intOf]; omega
      · have hk' : k = R.length := by omega
        have e := hide (show flatTo R k = flat R by rw [hk', flatTo_end])
        clear hk'
        go_wp2
        go_ret2
        exact ⟨ret_str2 (by rw [unhide e]; rfl), hbel⟩
end Go.Proofs.YtoepcplbpochpabDoor

/-
  A writer that was built.
-/
namespace Go.Proofs.YtoepcplbpochpabDoor
open Go.RowKit

set_option maxRecDepth 100000 in
theorem built117 (hs : Nat → Bool) (ha : Nat → Nat) (K : Nat) : Tryd.prog.built 89 [(0, .agg (rowA 24 (homV hs ha))), (1, .int .i64 K)] = some (rowA 66 (wrV hs ha K (.slice none 0 0) (fun _ => 0))) := by kernel_rfl
end Go.Proofs.YtoepcplbpochpabDoor

/-
  From a program to a unit: lodge.Compile.
-/
namespace Go.Proofs.YtoepcplbpochpabDoor
open Go.RowKit

theorem Tryd.size89 : (Tryd.prog.info? 89).map (·.size) = some 66 := by kernel_rfl
theorem wrV_plain (hs : Nat → Bool) (ha : Nat → Nat) (K : Nat) (st : Nat → Nat) (ao : Option Addr) (n cap : Nat) : ∀ i, i < 66 → (wrV hs ha K (.slice ao n cap) st i).oneCell' = true := fun i _ => by
  unfold wrV
  split
  · unfold homV; split <;> rfl
  split
  · rfl
  split <;> rfl
/-- Forty numbers in the midst of a block. -/
def cells40 (st : Nat → Nat) : List Value := (List.range 40).map (numV st)
theorem range40 {w : World} {B : Nat} {hs : Nat → Bool} {ha : Nat → Nat} {K : Nat} {st : Nat → Nat} {C : List In4} {sv : Value} (h : WrB w B hs ha K st C sv) : w.rangeAt B 26 (cells40 st) := fun j v hv => by
  unfold cells40 at hv
  have hj : j < 40 := by
    rcases Nat.lt_or_ge j 40 with h | h
    · exact h
    · rw [List.getElem?_eq_none (by simp; exact h)] at hv; cases hv
  rw [List.getElem?_map, List.getElem?_range hj] at hv
  rw [h.starts hj]
  exact hv
theorem size40 (st : Nat → Nat) : (Tryd.prog.info? 87).map (·.size) = some (cells40 st).length := by
  unfold cells40; rw [List.length_map, List.length_range]; exact Tryd.size87
theorem agg40 (st : Nat → Nat) : Value.agg (cells40 st).toArray = .agg (rowA 40 (numV st)) := rfl
/-- The bytes of a table. -/
def encT (R : List Rg) : ByteArray := if isTab R = true then encAll R else ByteArray.empty
def encX (R : List Rg) : Int := if isTab R = true then 0 else 10
theorem encV_eq (R : List Rg) : encV R = .tuple #[.string (encT R), .int .i64 (encX R)] := by
  unfold encV encT encX; split <;> rfl
theorem Tryd.size33 : (Tryd.prog.info? 33).map (·.size) = some 6 := by kernel_rfl
theorem results_unit {fn : Func} {p q : Tmp} (h : fn.results = #[.cell p 33, .tmp q]) (tmps : Array Value) (w : World) (g : Nat) (cs : Array Value) (hp : tmps.getD p undef = .pointer (some ⟨g, 0, none⟩)) (hg : w.heap[g]? = some (.cells cs 33 (0, 0))) (hn : cs.size = 6) :
    (results fn tmps).run Tryd.prog w = .ok (.tuple #[.agg cs, tmps.getD q undef]) w := by
  have hp' : tmps[p]?.getD undef = .pointer (some ⟨g, 0, none⟩) := by simpa using hp
  simp [results, h, hp', asAddr, run_loadVar_row w g 33 33 cs (0, 0) _ hg Tryd.underlying33 rfl (by rw [hn]; exact Tryd.size33)]
theorem set6 {w : World} {g : Nat} {z0 z1 z2 z3 z4 z5 : Value} (h : w.heap[g]? = some (.cells #[z0, z1, z2, z3, z4, z5] 33 (0, 0))) (a b c d e f : Value) :
    ((((((w.setCell ⟨g, 0, none⟩ a).setCell ⟨g, 1, none⟩ b).setCell ⟨g, 2, none⟩ c).setCell ⟨g, 3, none⟩ d).setCell ⟨g, 4, none⟩ e).setCell ⟨g, 5, none⟩ f).heap[g]? = some (.cells #[a, b, c, d, e, f] 33 (0, 0)) := by
  rw [heap_setCell_same _ g 5 _ 33 f (heap_setCell_same _ g 4 _ 33 e (heap_setCell_same _ g 3 _ 33 d (heap_setCell_same _ g 2 _ 33 c (heap_setCell_same _ g 1 _ 33 b (heap_setCell_same w g 0 _ 33 a h)))))]; rfl
theorem keep6 (w : World) (g : Nat) (a b c d e f : Value) : Keep (fun k => k = g) w ((((((w.setCell ⟨g, 0, none⟩ a).setCell ⟨g, 1, none⟩ b).setCell ⟨g, 2, none⟩ c).setCell ⟨g, 3, none⟩ d).setCell ⟨g, 4, none⟩ e).setCell ⟨g, 5, none⟩ f) :=
  keep_set (keep_set (keep_set (keep_set (keep_set (keep_set (Keep.refl _ _) _ _) _ _) _ _) _ _) _ _) _ _
/-- The head of Compile. -/
theorem open_cmp (w : World) (P R V : Int) (sl : Value) : ∃ w1, w1 = (w.alloc (.cells #[.int .i64 P, .int .i64 R, .int .i64 V, sl] 24)).alloc (.cells #[.int .i64 0, .int .i64 0, .int .i64 0, .int .i64 0, .slice none 0 0, .string ⟨#[]⟩] 33) ∧
    Hid (ProgB w1 w.heap.size P R V sl) ∧ Hid (w1.heap[w.heap.size + 1]? = some (.cells #[.int .i64 0, .int .i64 0, .int .i64 0, .int .i64 0, .slice none 0 0, .string ⟨#[]⟩] 33 (0, 0))) ∧ Hid (Below w.heap.size w w1) ∧ w.heap.size + 1 < w1.heap.size := by
  refine ⟨_, rfl, ?_, two_new _ _ _, ?_, by simp⟩
  · exact (progb_alloc w P R V sl).below (below_alloc _ _)
  · exact (below_alloc _ _).alloc (by simp) _

/-- The unit's code and its table. -/
def cmpC (P R K : Nat) (L : List In4) : List In4 := codeB (homS L R K) (homA L R K) K (liveB L 0) P L
def cmpR (P R V K : Nat) (L : List In4) : List Rg := rngV (homS L R K) (homA L R K) (stF (homS L R K) (homA L R K) K (liveB L 0) P L L.length) L V
/-- What Compile leaves behind. -/
def CmpPost (w : World) (P R V K : Nat) (L : List In4) (e : Ending) (w' : World) : Prop :=
  ∃ ao cap, e = .returned (.tuple #[.agg #[.int .i64 K, .int .i64 (slotsB L P R K), .int .i64 P, .int .i64 V, .slice ao (cmpC P R K L).length cap, .string (encT (cmpR P R V K L))], .int .i64 0]) ∧
    w'.ownsRow w.heap.size 31 4 (.slice ao (cmpC P R K L).length cap) (cmpC P R K L).length (insCells (cmpC P R K L)) ∧ Below w.heap.size w w'

set_option maxRecDepth 100000 in
set_option maxHeartbeats 8000000 in
theorem compile_right (P R V K : Nat) (L : List In4) (ao : Option Addr) (cap : Nat) (w : World) (hH : HeldIns w ao L) (hT : Tab w) (hw0 : 0 < w.heap.size) (hE : (progE P R V L).1 = 0) (hK : 2 ≤ K) (hK' : K ≤ 16) :
    Calls Tryd.prog 17 #[.agg #[.int .i64 P, .int .i64 R, .int .i64 V, .slice ao L.length cap], .int .i64 K] w (CmpPost w P R V K L) := by
  have hp := rightP_of P R V L hE
  have hL := right_inside hp
  have hn1 := hp.n1
  have hn40 := hp.n40
  have hR12 : R ≤ 12 := by have := hp.r12; omega
  obtain ⟨b, off, rfl, hb, hI⟩ := held_at hH hn1
  have KC := hide (fun w (hH : HeldIns w (some ⟨b, off, none⟩) L) (hT : Tab w) (hw0 : 0 < w.heap.size) => irCheck_any P R V L (some ⟨b, off, none⟩) cap w hH (by omega) hT hw0)
  have KL := hide (fun w (hH : HeldIns w (some ⟨b, off, none⟩) L) => findLive_any L (some ⟨b, off, none⟩) cap w hH hL hn1 hn40)
  have hwr : ∀ i, i < L.length → isWr (inAt L i).op = true → 0 ≤ (inAt L i).d ∧ (inAt L i).d < 12 ∧ i + 1 < L.length := fun i hi hw => by
    obtain ⟨h1, h2, h3⟩ := right_wr hp i hi hw; exact ⟨h1, by omega, h3⟩
  have KH := hide (fun w (hH : HeldIns w (some ⟨b, off, none⟩) L) => homes_any P V R K L (some ⟨b, off, none⟩) cap w hH hR12 hK hK' hn1 hn40 hwr)
  rw [hE] at KC
  obtain ⟨w1, hw1, HP1, HR1, HL1, hz1⟩ := open_cmp w P R V (.slice (some ⟨b, off, none⟩) L.length cap)
  have HW := hide hw1
  have HH := hide hH
  have HT := hide hT
  clear hw1 hH hT hI
  go_enter Tryd.func17, Tryd.ntmps17
  go_upto_region 1 with fail
  rw [← unhide HW]
  have p0 := (unhide HP1).c0
  have p1 := (unhide HP1).c1
  have p2 := (unhide HP1).c2
  have p3 := (unhide HP1).c3
  go_wp2_with fail
  refine (unhide KC w1 ((unhide HH).below (unhide HL1)) ((unhide HT).below (unhide HL1) hw0) (by omega)).mono ?_
  rintro e w2 ⟨rfl, hb2⟩
  have HP2 := hide ((unhide HP1).below hb2)
  have HR2 : Hid (w2.heap[w.heap.size + 1]? = some (.cells #[.int .i64 0, .int .i64 0, .int .i64 0, .int .i64 0, .slice none 0 0, .string ⟨#[]⟩] 33 (0, 0))) := (hb2.block _ hz1).trans (unhide HR1)
  have HL2 : Hid (Below w.heap.size w w2) := (unhide HL1).trans (hb2.mono (unhide HL1).size)
  have hz2 : w.heap.size + 1 < w2.heap.size := Nat.lt_of_lt_of_le hz1 hb2.size
  clear hb2 p0 p1 p2 p3 HP1 HR1 HL1 hz1 KC HW
  have p3 := (unhide HP2).c3
  have KL' := hide (unhide KL w2 ((unhide HH).below (unhide HL2)))
  have hKi : (K : Int) ≤ 16 := by omega
  have hKi2 : (2 : Int) ≤ K := by omega
  go_wp2_with fail
  refine (unhide KL').mono ?_
  rintro e w3 ⟨rfl, hb3⟩
  have HP3 := hide ((unhide HP2).below hb3)
  have HR3 : Hid (w3.heap[w.heap.size + 1]? = some (.cells #[.int .i64 0, .int .i64 0, .int .i64 0, .int .i64 0, .slice none 0 0, .string ⟨#[]⟩] 33 (0, 0))) := (hb3.block _ hz2).trans (unhide HR2)
  have HL3 : Hid (Below w.heap.size w w3) := (unhide HL2).trans (hb3.mono (unhide HL2).size)
  have hz3 : w.heap.size + 1 < w3.heap.size := Nat.lt_of_lt_of_le hz2 hb3.size
  clear hb3 p3 HP2 HR2 HL2 hz2 KL KL'
  go_upto_region 7 with (refine wpList_store_row ?h1 80 ?h2 ?h3 ?h4 w3.heap.size ?h5 ?h6 ?h7 ?h8 ?h9 ?h10 ?h11 ?h12 ?h13 ?h14; case h4 => rfl)
  case h1 => rfl
  case h6 => rfl
  case h7 => rfl
  case h10 => exact heap_alloc_new _ _
  case h11 => rw [rowA_size]; exact Tryd.size80
  case h12 => rw [rowA_size, zero108, rowA_size]
  case h13 => exact rowA_plain (gridV_plain _)
  rw [World.setRow_alloc_new]
  obtain ⟨w4, hw4, HV4, HL4', hz4⟩ := box_row w3 80 480 (gridV (liveB L))
  rw [← hw4]
  have HP4 := hide ((unhide HP3).below (unhide HL4'))
  have HR4 : Hid (w4.heap[w.heap.size + 1]? = some (.cells #[.int .i64 0, .int .i64 0, .int .i64 0, .int .i64 0, .slice none 0 0, .string ⟨#[]⟩] 33 (0, 0))) := ((unhide HL4').block _ hz3).trans (unhide HR3)
  have HL4 : Hid (Below w.heap.size w w4) := (unhide HL3).trans ((unhide HL4').mono (unhide HL3).size)
  clear hw4 HP3 HR3 HL3 HL4'
  have p0 := (unhide HP4).c0
  have p1 := (unhide HP4).c1
  have p2 := (unhide HP4).c2
  have p3 := (unhide HP4).c3
  have KH' := hide (unhide KH w4 ((unhide HH).below (unhide HL4)))
  have HVr := HV4
  iterate 60 (first | (refine wpList_load_row rfl 80 _ rfl w3.heap.size rfl 80 _ (0, 0) _ (unhide HVr) Tryd.underlying80 rfl (by rw [rowA_size]; exact Tryd.size80) ?_; clear HVr) | go_values | go_skip | go_guarded | go_step | skip)
  refine (unhide KH').mono ?_
  rintro e w5 ⟨rfl, hb5⟩
  have HP5 := hide ((unhide HP4).below hb5)
  have HV5 := hide ((unhide HV4).below hb5)
  have HR5 : Hid (w5.heap[w.heap.size + 1]? = some (.cells #[.int .i64 0, .int .i64 0, .int .i64 0, .int .i64 0, .slice none 0 0, .string ⟨#[]⟩] 33 (0, 0))) := (hb5.block _ (by omega)).trans (unhide HR4)
  have HL5 : Hid (Below w.heap.size w w5) := (unhide HL4).trans (hb5.mono (unhide HL4).size)
  have hz5 : w3.heap.size < w5.heap.size := Nat.lt_of_lt_of_le hz4 hb5.size
  clear hb5 p0 p1 p2 p3 KH' HP4 HV4 HR4 HL4 KH
  obtain ⟨w6, hw6, HM6, HL6', hz6⟩ := box_row w5 85 24 (homV (homS L R K) (homA L R K))
  have HW6 := hide hw6
  have HP6 := hide ((unhide HP5).below (unhide HL6'))
  have HV6 := hide ((unhide HV5).below (unhide HL6'))
  have HR6 : Hid (w6.heap[w.heap.size + 1]? = some (.cells #[.int .i64 0, .int .i64 0, .int .i64 0, .int .i64 0, .slice none 0 0, .string ⟨#[]⟩] 33 (0, 0))) := ((unhide HL6').block _ (by omega)).trans (unhide HR5)
  have HL6 : Hid (Below w.heap.size w w6) := (unhide HL5).trans ((unhide HL6').mono (unhide HL5).size)
  have HZZ := hide (World.setRow_alloc_new w5 (#[.bool false, .int .i64 0, .bool false, .int .i64 0, .bool false, .int .i64 0, .bool false, .int .i64 0, .bool false, .int .i64 0, .bool false, .int .i64 0, .bool false, .int .i64 0, .bool false, .int .i64 0, .bool false, .int .i64 0, .bool false, .int .i64 0, .bool false, .int .i64 0, .bool false, .int .i64 0] : Array Value) (rowA 24 (homV (homS L R K) (homA L R K))) 85)
  clear hw6 HP5 HV5 HR5 HL5 HL6'
  have HMr := HM6
  dsimp only
  iterate 13 (first | (refine wpList_store_row rfl 85 _ _ rfl w5.heap.size (rowA 24 (homV (homS L R K) (homA L R K))) rfl rfl 85 (#[.bool false, .int .i64 0, .bool false, .int .i64 0, .bool false, .int .i64 0, .bool false, .int .i64 0, .bool false, .int .i64 0, .bool false, .int .i64 0, .bool false, .int .i64 0, .bool false, .int .i64 0, .bool false, .int .i64 0, .bool false, .int .i64 0, .bool false, .int .i64 0, .bool false, .int .i64 0]) (heap_alloc_new _ _) (by rw [rowA_size]; exact Tryd.size85) (by rw [rowA_size]; rfl) (rowA_plain (homV_plain _ _)) ?_; rw [unhide HZZ, ← unhide HW6]; clear HZZ) | (refine wpList_load_row rfl 85 _ rfl w5.heap.size rfl 85 _ (0, 0) _ (unhide HMr) Tryd.underlying85 rfl (by rw [rowA_size]; exact Tryd.size85) ?_; clear HMr) | go_values | go_skip | go_guarded | go_step | skip)
  (first | go_values | go_skip | go_guarded | go_step | skip)
  refine wpList_buildTo (by rfl) 89 _ (by rfl) (some 40) (by rfl) (rowA 66 (wrV (homS L R K) (homA L R K) K (.slice none 0 0) (fun _ => 0))) ?hf ?_
  case hf => exact (congrArg (Tryd.prog.built 89) (by rw [List.map_toArray]; rfl)).trans (built117 (homS L R K) (homA L R K) K)
  simp only [Act.put, List.setIfInBounds_toArray, List.set_cons_zero, List.set_cons_succ]
  obtain ⟨w7, hw7, HW7, HL7', hz7⟩ := box_row w6 89 66 (wrV (homS L R K) (homA L R K) K (.slice none 0 0) (fun _ => 0))
  have HWW := hide hw7
  have HP7 := hide ((unhide HP6).below (unhide HL7'))
  have HV7 := hide ((unhide HV6).below (unhide HL7'))
  have HM7 := hide ((unhide HM6).below (unhide HL7'))
  have HR7 : Hid (w7.heap[w.heap.size + 1]? = some (.cells #[.int .i64 0, .int .i64 0, .int .i64 0, .int .i64 0, .slice none 0 0, .string ⟨#[]⟩] 33 (0, 0))) := ((unhide HL7').block _ (by omega)).trans (unhide HR6)
  have HL7 : Hid (Below w.heap.size w w7) := (unhide HL6).trans ((unhide HL7').mono (unhide HL6).size)
  clear hw7 HP6 HV6 HM6 HR6 HL6 HL7'
  iterate 3 (first | go_values | go_skip | go_guarded | go_step)
  refine wpList_store_row (by rfl) 89 _ _ (by rfl) w6.heap.size (rowA 66 (wrV (homS L R K) (homA L R K) K (.slice none 0 0) (fun _ => 0))) (by rfl) (by rfl) 89 _ (heap_alloc_new _ _) (by rw [rowA_size]; exact Tryd.size89) (by rw [rowA_size]; rfl) (rowA_plain (wrV_plain _ _ _ _ _ _ _)) ?_
  rw [World.setRow_alloc_new, ← unhide HWW]
  have HX0 := hide (range12 (unhide HV7) 0 (by omega))
  rw [Nat.zero_mul] at HX0
  have HB7 : Hid (WrB w7 w6.heap.size (homS L R K) (homA L R K) K (fun _ => 0) [] (.slice none 0 0)) := ⟨unhide HW7, rfl, .inl ⟨rfl, rfl⟩⟩
  have KW := hide (writeProg_any w6.heap.size (homS L R K) (homA L R K) K (.slice none 0 0) P R V L (some ⟨b, off, none⟩) cap (liveB L 0) w7 (unhide HB7) hK hK' hp ((unhide HH).below (unhide HL7)) (fun b' off' e => by injection e with e; injection e with e1 e2; omega))
  have p0 := (unhide HP7).c0
  have p1 := (unhide HP7).c1
  have p2 := (unhide HP7).c2
  have p3 := (unhide HP7).c3
  clear HW7 HWW
  iterate 30 (first | (refine wpList_load_mid (by rfl) 77 _ (by rfl) w3.heap.size 0 (by rfl) (cells12 (liveB L 0)) _ (unhide HX0) Tryd.underlying77 rfl (size12 _) ?_; rw [agg12]; clear HX0) | go_values | go_skip | go_guarded | go_step | skip)
  refine (unhide KW).mono ?_
  rintro e w8 ⟨rfl, sv8, hw8, hs8⟩
  have hu8 := hs8.under (unhide HB7)
  have HB8 := hide hw8
  have HU8 := hide hu8
  have hz78 : w7.heap.size ≤ w8.heap.size := hs8.keep.size
  have HP8 : Hid (ProgB w8 w.heap.size P R V (.slice (some ⟨b, off, none⟩) L.length cap)) := (hu8.block _ (by omega)).trans (unhide HP7)
  have HV8 := hide ((unhide HV7).of_block (hu8.block _ (by omega)))
  have HM8 := hide ((unhide HM7).of_block (hu8.block _ (by omega)))
  have HR8 : Hid (w8.heap[w.heap.size + 1]? = some (.cells #[.int .i64 0, .int .i64 0, .int .i64 0, .int .i64 0, .slice none 0 0, .string ⟨#[]⟩] 33 (0, 0))) := (hu8.block _ (by omega)).trans (unhide HR7)
  have HL8 : Hid (Below w.heap.size w w8) := (unhide HL7).trans (hu8.mono (by omega))
  have hn0 : w3.heap.size < w6.heap.size := by omega
  clear hw8 hs8 hu8 HB7 HP7 HV7 HM7 HR7 HL7 KW p0 p1 p2 p3
  obtain ⟨st, hst⟩ : ∃ st, st = stF (homS L R K) (homA L R K) K (liveB L 0) P L L.length := ⟨_, rfl⟩
  rw [← hst] at HB8
  have HSTL : Hid (∀ i, st i ≤ 1000) := fun i => by
    rw [hst]; unfold stF
    split
    · have := wTo_len (homS L R K) (homA L R K) K (liveB L 0) P L i; have := hp.p4; omega
    · omega
  have HSTE := hide hst
  clear hst
  have HX8 := hide (range40 (unhide HB8))
  have KR := hide (ranges_any P R V L (some ⟨b, off, none⟩) cap (homS L R K) (homA L R K) st w8 ((unhide HH).below (unhide HL8)) hL (by have := hp.v4; omega) hn1 hn40 (unhide HSTL) (fun i v _ _ h3 => by have := fact_reg hp i v h3; omega))
  have p0 := (unhide HP8).c0
  have p1 := (unhide HP8).c1
  have p2 := (unhide HP8).c2
  have p3 := (unhide HP8).c3
  have HVr := HV8
  have HMr := HM8
  dsimp only
  iterate 40 (first | (refine wpList_load_mid (by rfl) 87 _ (by rfl) w6.heap.size 26 (by rfl) (cells40 st) _ (unhide HX8) Tryd.underlying87 rfl (size40 _) ?_; rw [agg40]; clear HX8) | (refine wpList_load_row (by rfl) 80 _ (by rfl) w3.heap.size (by rfl) 80 _ (0, 0) _ (unhide HVr) Tryd.underlying80 rfl (by rw [rowA_size]; exact Tryd.size80) ?_; clear HVr) | (refine wpList_load_row (by rfl) 85 _ (by rfl) w5.heap.size (by rfl) 85 _ (0, 0) _ (unhide HMr) Tryd.underlying85 rfl (by rw [rowA_size]; exact Tryd.size85) ?_; clear HMr) | go_values | go_skip | go_guarded | go_step | skip)
  refine (unhide KR).mono ?_
  rintro e w9 ⟨sv9, rfl, hw9, hb9⟩
  obtain ⟨ao9, cap9, rfl, hH9, hl9, _, _⟩ := own_held hw9
  have HB9 := hide ((unhide HB8).below hb9)
  have HP9 := hide ((unhide HP8).below hb9)
  have HM9 := hide ((unhide HM8).below hb9)
  have HR9 : Hid (w9.heap[w.heap.size + 1]? = some (.cells #[.int .i64 0, .int .i64 0, .int .i64 0, .int .i64 0, .slice none 0 0, .string ⟨#[]⟩] 33 (0, 0))) := (hb9.block _ (by omega)).trans (unhide HR8)
  have HL9 : Hid (Below w.heap.size w w9) := (unhide HL8).trans (hb9.mono (unhide HL8).size)
  have hz89 : w8.heap.size ≤ w9.heap.size := hb9.size
  have KE := hide (encode_any _ ao9 cap9 w9 hH9 (by unfold maxLen at hl9; omega))
  rw [encV_eq] at KE
  clear hw9 hb9 hH9 hl9 KR HB8 HP8 HV8 HM8 HR8 HL8 p0 p1 p2 p3 HU8
  obtain ⟨RR, hRR⟩ : ∃ RR, RR = rngV (homS L R K) (homA L R K) st L V := ⟨_, rfl⟩
  rw [← hRR] at KE ⊢
  have HRR := hide hRR
  clear hRR
  go_wp2_with fail
  refine (unhide KE).mono ?_
  rintro e wA ⟨rfl, hbA⟩
  have HBA := hide ((unhide HB9).below hbA)
  have HPA := hide ((unhide HP9).below hbA)
  have HMA := hide ((unhide HM9).below hbA)
  have HRA : Hid (wA.heap[w.heap.size + 1]? = some (.cells #[.int .i64 0, .int .i64 0, .int .i64 0, .int .i64 0, .slice none 0 0, .string ⟨#[]⟩] 33 (0, 0))) := (hbA.block _ (by omega)).trans (unhide HR9)
  have HLA : Hid (Below w.heap.size w wA) := (unhide HL9).trans (hbA.mono (unhide HL9).size)
  have hz9A : w9.heap.size ≤ wA.heap.size := hbA.size
  clear hbA KE HB9 HP9 HM9 HR9 HL9
  have KS := hide (slots_any V P R (.slice (some ⟨b, off, none⟩) L.length cap) (homS L R K) (homA L R K) hR12 (by have := hp.pr; omega) wA)
  have p0 := (unhide HPA).c0
  have p1 := (unhide HPA).c1
  have p2 := (unhide HPA).c2
  have p3 := (unhide HPA).c3
  have HMr := HMA
  dsimp only
  iterate 40 (first | (refine wpList_load_row (by rfl) 85 _ (by rfl) w5.heap.size (by rfl) 85 _ (0, 0) _ (unhide HMr) Tryd.underlying85 rfl (by rw [rowA_size]; exact Tryd.size85) ?_; clear HMr) | go_values | go_skip | go_guarded | go_step | skip)
  refine (unhide KS).mono ?_
  rintro e wB ⟨rfl, hbB⟩
  have HBB := hide ((unhide HBA).below hbB)
  have HPB := hide ((unhide HPA).below hbB)
  have HRB : Hid (wB.heap[w.heap.size + 1]? = some (.cells #[.int .i64 0, .int .i64 0, .int .i64 0, .int .i64 0, .slice none 0 0, .string ⟨#[]⟩] 33 (0, 0))) := (hbB.block _ (by omega)).trans (unhide HRA)
  have HLB : Hid (Below w.heap.size w wB) := (unhide HLA).trans (hbB.mono (unhide HLA).size)
  clear hbB KS HBA HPA HMA HRA HLA p0 p1 p2 p3
  have p0 := (unhide HPB).c0
  have p2 := (unhide HPB).c2
  obtain ⟨ao8, cap8, rfl⟩ := (unhide HBB).shape
  have c25 := (unhide HBB).sv
  have r0 : wB.cell? ⟨w.heap.size + 1, 0, none⟩ = some (.int .i64 0) := (cell_of_row wB _ 0 _ 33 (0, 0) (unhide HRB)).trans rfl
  have r1 : wB.cell? ⟨w.heap.size + 1, 1, none⟩ = some (.int .i64 0) := (cell_of_row wB _ 1 _ 33 (0, 0) (unhide HRB)).trans rfl
  have r2 : wB.cell? ⟨w.heap.size + 1, 2, none⟩ = some (.int .i64 0) := (cell_of_row wB _ 2 _ 33 (0, 0) (unhide HRB)).trans rfl
  have r3 : wB.cell? ⟨w.heap.size + 1, 3, none⟩ = some (.int .i64 0) := (cell_of_row wB _ 3 _ 33 (0, 0) (unhide HRB)).trans rfl
  have r4 : wB.cell? ⟨w.heap.size + 1, 4, none⟩ = some (.slice none 0 0) := (cell_of_row wB _ 4 _ 33 (0, 0) (unhide HRB)).trans rfl
  have r5 : wB.cell? ⟨w.heap.size + 1, 5, none⟩ = some (.string ⟨#[]⟩) := (cell_of_row wB _ 5 _ 33 (0, 0) (unhide HRB)).trans rfl
  have rf : ∀ o, wB.frozen? ⟨w.heap.size + 1, o, none⟩ = false := fun o => by have h := unhide HRB; simp [World.frozen?, h]
  go_wp2_with fail
  have HQ : Hid (CmpPost w P R V K L (.returned (.tuple #[.agg #[.int .i64 K, .int .i64 (slTo (homS L R K) P (R - P)), .int .i64 P, .int .i64 V, .slice ao8 (codeB (homS L R K) (homA L R K) K (liveB L 0) P L).length cap8, .string (encT RR)], .int .i64 0])) ((((((wB.setCell ⟨w.heap.size + 1, 0, none⟩ (.int .i64 K)).setCell ⟨w.heap.size + 1, 1, none⟩ (.int .i64 (slTo (homS L R K) P (R - P)))).setCell ⟨w.heap.size + 1, 2, none⟩ (.int .i64 P)).setCell ⟨w.heap.size + 1, 3, none⟩ (.int .i64 V)).setCell ⟨w.heap.size + 1, 4, none⟩ (.slice ao8 (codeB (homS L R K) (homA L R K) K (liveB L 0) P L).length cap8)).setCell ⟨w.heap.size + 1, 5, none⟩ (.string (encT RR)))) := by
    have hk := keep6 wB (w.heap.size + 1) (.int .i64 K) (.int .i64 (slTo (homS L R K) P (R - P))) (.int .i64 P) (.int .i64 V) (.slice ao8 (codeB (homS L R K) (homA L R K) K (liveB L 0) P L).length cap8) (.string (encT RR))
    refine ⟨ao8, cap8, ?_, ?_, ?_⟩
    · rw [unhide HRR, unhide HSTE]; rfl
    · exact own_keep (own_weakR (unhide HBB).own (by omega)) hk (fun g hg e => by have := (own_in (unhide HBB).own g hg).1; omega)
    · exact (unhide HLB).trans (hk.below (unhide HLB).size (fun k hk e => by omega))
  refine bodyPost_ret (results_unit rfl _ _ (w.heap.size + 1) _ rfl (set6 (unhide HRB) _ _ _ _ _ _) rfl) rfl ?_
  exact unhide HQ
end Go.Proofs.YtoepcplbpochpabDoor

/-
  Units as plain data: the error of a unit, and its place; what mach.isSize and mach.isRange answer.
-/
namespace Go.Proofs.YtoepcplbpochpabDoor
open Go.RowKit

def UnitBad (K S P V : Int) (n : Nat) : Prop := K < 2 ∨ 16 < K ∨ S < 0 ∨ 16 < S ∨ P < 0 ∨ 4 < P ∨ S < P ∨ V < 0 ∨ 4 < V ∨ n < 1 ∨ 164 < n
def decUnit (K S P V : Int) (n : Nat) : Decidable (UnitBad K S P V n) := by unfold UnitBad; exact inferInstance
def unitB (K S P V : Int) (n : Nat) : Bool := @ite _ (UnitBad K S P V n) (decUnit K S P V n) false true
theorem unitB_bad {K S P V : Int} {n : Nat} (h : UnitBad K S P V n) : unitB K S P V n = false := @if_pos _ (decUnit _ _ _ _ _) h _ _ _
theorem unitB_good {K S P V : Int} {n : Nat} (h : ¬ UnitBad K S P V n) : unitB K S P V n = true := @if_neg _ (decUnit _ _ _ _ _) h _ _ _
/-- The first test that a unit's size fails. -/
theorem unit_cases {K S P V : Int} {n : Nat} (h : UnitBad K S P V n) :
    K < 2 ∨ (2 ≤ K ∧ 16 < K) ∨ (2 ≤ K ∧ K ≤ 16 ∧ S < 0) ∨ (2 ≤ K ∧ K ≤ 16 ∧ 0 ≤ S ∧ 16 < S) ∨ (2 ≤ K ∧ K ≤ 16 ∧ 0 ≤ S ∧ S ≤ 16 ∧ P < 0) ∨ (2 ≤ K ∧ K ≤ 16 ∧ 0 ≤ S ∧ S ≤ 16 ∧ 0 ≤ P ∧ 4 < P) ∨
    (2 ≤ K ∧ K ≤ 16 ∧ 0 ≤ S ∧ S ≤ 16 ∧ 0 ≤ P ∧ P ≤ 4 ∧ S < P) ∨ (2 ≤ K ∧ K ≤ 16 ∧ 0 ≤ S ∧ S ≤ 16 ∧ 0 ≤ P ∧ P ≤ 4 ∧ P ≤ S ∧ V < 0) ∨ (2 ≤ K ∧ K ≤ 16 ∧ 0 ≤ S ∧ S ≤ 16 ∧ 0 ≤ P ∧ P ≤ 4 ∧ P ≤ S ∧ 0 ≤ V ∧ 4 < V) ∨
    (2 ≤ K ∧ K ≤ 16 ∧ 0 ≤ S ∧ S ≤ 16 ∧ 0 ≤ P ∧ P ≤ 4 ∧ P ≤ S ∧ 0 ≤ V ∧ V ≤ 4 ∧ n < 1) ∨ (2 ≤ K ∧ K ≤ 16 ∧ 0 ≤ S ∧ S ≤ 16 ∧ 0 ≤ P ∧ P ≤ 4 ∧ P ≤ S ∧ 0 ≤ V ∧ V ≤ 4 ∧ 1 ≤ n ∧ 164 < n) := by
  unfold UnitBad at h
  by_cases h1 : K < 2
  · exact .inl h1
  by_cases h2 : 16 < K
  · exact .inr (.inl (by omega))
  by_cases h3 : S < 0
  · exact .inr (.inr (.inl (by omega)))
  by_cases h4 : 16 < S
  · exact .inr (.inr (.inr (.inl (by omega))))
  by_cases h5 : P < 0
  · exact .inr (.inr (.inr (.inr (.inl (by omega)))))
  by_cases h6 : 4 < P
  · exact .inr (.inr (.inr (.inr (.inr (.inl (by omega))))))
  by_cases h7 : S < P
  · exact .inr (.inr (.inr (.inr (.inr (.inr (.inl (by omega)))))))
  by_cases h8 : V < 0
  · exact .inr (.inr (.inr (.inr (.inr (.inr (.inr (.inl (by omega))))))))
  by_cases h9 : 4 < V
  · exact .inr (.inr (.inr (.inr (.inr (.inr (.inr (.inr (.inl (by omega)))))))))
  by_cases h10 : n < 1
  · exact .inr (.inr (.inr (.inr (.inr (.inr (.inr (.inr (.inr (.inl (by omega))))))))))
  · exact .inr (.inr (.inr (.inr (.inr (.inr (.inr (.inr (.inr (.inr (by omega))))))))))
theorem unit_good {K S P V : Int} {n : Nat} (h : ¬ UnitBad K S P V n) : 2 ≤ K ∧ K ≤ 16 ∧ 0 ≤ S ∧ S ≤ 16 ∧ 0 ≤ P ∧ P ≤ 4 ∧ P ≤ S ∧ 0 ≤ V ∧ V ≤ 4 ∧ 1 ≤ n ∧ n ≤ 164 := by
  unfold UnitBad at h; omega

set_option maxRecDepth 100000 in
set_option maxHeartbeats 2000000 in
theorem isSizeU_any (K S P V : Int) (L : List In4) (T : ByteArray) (ao : Option Addr) (cap : Nat) (w : World) (hn : L.length ≤ 9223372036854775807) :
    Calls Tryd.prog 41 #[.agg #[.int .i64 K, .int .i64 S, .int .i64 P, .int .i64 V, .slice ao L.length cap, .string T]] w fun e w' =>
      e = .returned (.bool (unitB K S P V L.length)) ∧ Below w.heap.size w w' := by
  by_cases hs : UnitBad K S P V L.length
  · have HS := hide (unitB_bad hs)
    rcases unit_cases hs with h | ⟨g1, h⟩ | ⟨g1, g2, h⟩ | ⟨g1, g2, g3, h⟩ | ⟨g1, g2, g3, g4, h⟩ | ⟨g1, g2, g3, g4, g5, h⟩ | ⟨g1, g2, g3, g4, g5, g6, h⟩ | ⟨g1, g2, g3, g4, g5, g6, g7, h⟩ | ⟨g1, g2, g3, g4, g5, g6, g7, g8, h⟩ | ⟨g1, g2, g3, g4, g5, g6, g7, g8, g9, h⟩ | ⟨g1, g2, g3, g4, g5, g6, g7, g8, g9, g10, h⟩
    all_goals
      clear hs
      go_enter Tryd.func41, Tryd.ntmps41
      go_wp2
      go_ret
      refine ⟨ret_bool ?_, (Below.refl _ _).alloc (Nat.le_refl _) _⟩
      rw [unhide HS]
      try (simp; omega)
  · have HS := hide (unitB_good hs)
    obtain ⟨g1, g2, g3, g4, g5, g6, g7, g8, g9, g10, g11⟩ := unit_good hs
    clear hs
    go_enter Tryd.func41, Tryd.ntmps41
    go_wp2
    go_ret
    refine ⟨ret_bool ?_, (Below.refl _ _).alloc (Nat.le_refl _) _⟩
    rw [unhide HS]
    try (simp; omega)

/-- Does a range name only what the unit has? -/
def RgIn (K S V : Int) (n : Nat) (r : Rg) : Prop := r.v < V ∧ r.t ≤ (n : Int) ∧ (r.k = 0 → r.a < K) ∧ (r.k = 1 → r.a < S)
def decRg (K S V : Int) (n : Nat) (r : Rg) : Decidable (RgIn K S V n r) := by unfold RgIn; exact inferInstance
def rgIn (K S V : Int) (n : Nat) (r : Rg) : Bool := @ite _ (RgIn K S V n r) (decRg K S V n r) true false
theorem rgIn_yes {K S V : Int} {n : Nat} {r : Rg} (h : RgIn K S V n r) : rgIn K S V n r = true := @if_pos _ (decRg _ _ _ _ _) h _ _ _
theorem rgIn_no {K S V : Int} {n : Nat} {r : Rg} (h : ¬ RgIn K S V n r) : rgIn K S V n r = false := @if_neg _ (decRg _ _ _ _ _) h _ _ _
theorem rgIn_true {K S V : Int} {n : Nat} {r : Rg} (h : rgIn K S V n r = true) : RgIn K S V n r := by
  rcases decRg K S V n r with hn | hy
  · rw [rgIn_no hn] at h; cases h
  · exact hy
/-- The ways of the tests. -/
theorem rg_cases (K S V : Int) (n : Nat) (r : Rg) :
    (V ≤ r.v ∧ rgIn K S V n r = false) ∨ (r.v < V ∧ (n : Int) < r.t ∧ rgIn K S V n r = false) ∨
    (r.v < V ∧ r.t ≤ (n : Int) ∧ r.k = 0 ∧ K ≤ r.a ∧ rgIn K S V n r = false) ∨ (r.v < V ∧ r.t ≤ (n : Int) ∧ r.k = 0 ∧ r.a < K ∧ rgIn K S V n r = true) ∨
    (r.v < V ∧ r.t ≤ (n : Int) ∧ r.k = 1 ∧ S ≤ r.a ∧ rgIn K S V n r = false) ∨ (r.v < V ∧ r.t ≤ (n : Int) ∧ r.k = 1 ∧ r.a < S ∧ rgIn K S V n r = true) ∨
    (r.v < V ∧ r.t ≤ (n : Int) ∧ (r.k == 0) = false ∧ (r.k == 1) = false ∧ rgIn K S V n r = true) := by
  by_cases h1 : r.v < V
  case neg => exact .inl ⟨by omega, rgIn_no (fun h => h1 h.1)⟩
  by_cases h2 : r.t ≤ (n : Int)
  case neg => exact .inr (.inl ⟨h1, by omega, rgIn_no (fun h => h2 h.2.1)⟩)
  by_cases h3 : r.k = 0
  · by_cases h4 : r.a < K
    · exact .inr (.inr (.inr (.inl ⟨h1, h2, h3, h4, rgIn_yes ⟨h1, h2, fun _ => h4, fun h => by omega⟩⟩)))
    · exact .inr (.inr (.inl ⟨h1, h2, h3, by omega, rgIn_no (fun h => h4 (h.2.2.1 h3))⟩))
  by_cases h5 : r.k = 1
  · by_cases h4 : r.a < S
    · exact .inr (.inr (.inr (.inr (.inr (.inl ⟨h1, h2, h5, h4, rgIn_yes ⟨h1, h2, fun h => absurd h h3, fun _ => h4⟩⟩)))))
    · exact .inr (.inr (.inr (.inr (.inl ⟨h1, h2, h5, by omega, rgIn_no (fun h => h4 (h.2.2.2 h5))⟩))))
  · exact .inr (.inr (.inr (.inr (.inr (.inr ⟨h1, h2, by rw [beq_eq_false_iff_ne]; exact h3, by rw [beq_eq_false_iff_ne]; exact h5, rgIn_yes ⟨h1, h2, fun h => absurd h h3, fun h => absurd h h5⟩⟩)))))

set_option maxRecDepth 100000 in
set_option maxHeartbeats 2000000 in
theorem isRangeU_any (K S P V : Int) (n : Nat) (T : ByteArray) (r : Rg) (ao : Option Addr) (cap : Nat) (w : World) :
    Calls Tryd.prog 63 #[.agg #[.int .i64 r.v, .int .i64 r.f, .int .i64 r.t, .int .i64 r.k, .int .i64 r.a], .agg #[.int .i64 K, .int .i64 S, .int .i64 P, .int .i64 V, .slice ao n cap, .string T]] w fun e w' =>
      e = .returned (.bool (rgIn K S V n r)) ∧ Below w.heap.size w w' := by
  obtain ⟨b, hb⟩ : ∃ b, rgIn K S V n r = b := ⟨_, rfl⟩
  have hc := rg_cases K S V n r
  rw [hb] at hc ⊢
  clear hb
  obtain ⟨v, f, t, k, a⟩ := r
  simp only at hc ⊢
  rcases hc with ⟨g1, rfl⟩ | ⟨g1, g2, rfl⟩ | ⟨g1, g2, rfl, g4, rfl⟩ | ⟨g1, g2, rfl, g4, rfl⟩ | ⟨g1, g2, rfl, g4, rfl⟩ | ⟨g1, g2, rfl, g4, rfl⟩ | ⟨g1, g2, g3, g4, rfl⟩
  all_goals
    go_enter Tryd.func63, Tryd.ntmps63
    go_wp2
    go_ret
    refine ⟨ret_bool ?_, ((Below.refl _ _).alloc (Nat.le_refl _) _).alloc (by simp) _⟩
    first | rfl | (simp; done) | (simp; omega)

/-- Do the ranges of a list name only what the unit has? -/
def TabIn (K S V : Int) (n : Nat) (R : List Rg) : Prop := ∀ i, i < R.length → RgIn K S V n (rg R i)
end Go.Proofs.YtoepcplbpochpabDoor
