/-
  What the walk of lodgekeep.Counted must know, out of the contracts of Put and Get.
-/
import Derived.Test.YtoepcplbpochpaaCountedWalk
namespace Go.Proofs.Ytoepcplbpochpaa
open Go.RowKit

theorem getR_zero_none {s : ByteArray} (h : getL s.data.toList = none) : getR s 0 = .tuple #[.int .i64 0, .int .i64 0, .int .i64 14] :=
  getR_none (k := 0) (by simpa using h)

theorem app_data (a b : ByteArray) : (a ++ b).data.toList = a.data.toList ++ b.data.toList := by simp

theorem facts_of {m : Int} (h0 : 0 ≤ m) (h1 : m ≤ 2097151) {A B C D : ByteArray} {L : Nat} (hL : (encI m).length = L) (hA : A.size ≤ 140737488351232) (hB : B.size ≤ 140737488351232)
    (hC : C.data.toList = (encB m).dropLast) (hD : ∃ y : UInt8, ¬ (y.toNat : Int) < 128 ∧ D.data.toList = ((encB m).dropLast ++ [y]) ++ [0]) : CountedFacts m (numS m) A B C D L where
  size := by rw [numS_size, hL]
  put := fun w => by have := put_any m w; rw [putR_yes h0 h1] at this; exact this
  whole := fun w => by
    have h3 : (encI m).length ≤ 3 := by rw [enc_len]; split <;> (try split) <;> omega
    have hs : (A ++ numS m ++ B).size ≤ maxLen := by
      rw [ByteArray.size_append, ByteArray.size_append, numS_size]; unfold maxLen; omega
    have := get_any (A ++ numS m ++ B) A.size w hs (by omega)
    have e : getL ((A ++ numS m ++ B).data.toList.drop A.size) = some (m, L) := by
      rw [app_data, app_data, numS_data, List.append_assoc, List.drop_left' (Lib.size_eq A).symm, get_enc h0 h1, hL]
    rw [getR_some e] at this
    exact this
  cut := fun w => by
    have hs : C.size ≤ maxLen := by
      have : C.data.toList.length ≤ 3 := by rw [hC, List.length_dropLast, encB, List.length_map, enc_len]; split <;> (try split) <;> omega
      have e : C.size = C.data.toList.length := Lib.size_eq C
      unfold maxLen; omega
    have := get_any C 0 w hs (by decide)
    rw [getR_zero_none (by rw [hC]; exact get_open _ (enc_front m))] at this
    exact this
  drawn := fun w => by
    obtain ⟨y, hy, hd⟩ := hD
    have hs : D.size ≤ maxLen := by
      have : D.data.toList.length ≤ 5 := by rw [hd, List.length_append, List.length_append, List.length_dropLast, encB, List.length_map, enc_len]; simp only [List.length_cons, List.length_nil]; split <;> (try split) <;> omega
      have e : D.size = D.data.toList.length := Lib.size_eq D
      unfold maxLen; omega
    have := get_any D 0 w hs (by decide)
    rw [getR_zero_none (by rw [hd]; exact get_drawn _ (by simp) (fun a ha => by
      rcases List.mem_append.1 ha with h | h
      · exact enc_front m a h
      · rw [List.mem_singleton] at h; subst h; exact hy))] at this
    exact this

theorem wrap_up {x : UInt8} (h : (x.toNat : Int) < 128) : ∃ y : UInt8, ¬ (y.toNat : Int) < 128 ∧ UInt8.ofNat (IntKind.u8.wrap ((x.toNat : Int) + 128)).toNat = y := by
  have e : IntKind.u8.wrap ((x.toNat : Int) + 128) = (x.toNat : Int) + 128 := by
    rw [IntKind.wrap_u8]; omega
  refine ⟨_, ?_, rfl⟩
  rw [e, toNat_of (by omega) (by omega)]; omega

theorem byte_at {m : Int} {k : Nat} {x : UInt8} {r : List UInt8} (h : k < (numS m).size) (e : (encB m).drop k = x :: r) : (numS m)[k] = x := by
  have := drop_cons h
  rw [numS_data, e] at this
  exact (List.cons.inj this).1.symm

theorem strOne (x : Int) : (strOfNums [x]).data.toList = [UInt8.ofNat x.toNat] := rfl

theorem facts_one {m : Int} (h0 : 0 ≤ m) (h1 : m < 128) {A B : ByteArray} (hA : A.size ≤ 140737488351232) (hB : B.size ≤ 140737488351232) (hp : 0 < (numS m).size) :
    CountedFacts m (numS m) A B ByteArray.empty (strOfNums [IntKind.u8.wrap ((((numS m)[0]).toNat : Int) + 128)] ++ ⟨#[0]⟩) 1 := by
  have eb := encB_one h1
  have hx : (numS m)[0] = UInt8.ofNat m.toNat := byte_at hp (r := []) (by rw [eb]; rfl)
  obtain ⟨y, hy, ey⟩ := wrap_up (x := (numS m)[0]) (by rw [hx, toNat_of h0 (by omega)]; omega)
  refine facts_of h0 (by omega) (by rw [enc_one h1]; rfl) hA hB (by rw [eb]; rfl) ⟨y, hy, ?_⟩
  rw [app_data, strOne, ey, eb]
  rfl

theorem facts_two {m : Int} (h1 : 128 ≤ m) (h2 : m < 16384) {A B : ByteArray} (hA : A.size ≤ 140737488351232) (hB : B.size ≤ 140737488351232) (hp : 1 < (numS m).size) :
    CountedFacts m (numS m) A B ((numS m).extract 0 1) ((numS m).extract 0 1 ++ strOfNums [IntKind.u8.wrap ((((numS m)[1]).toNat : Int) + 128)] ++ ⟨#[0]⟩) 2 := by
  have eb := encB_two (by omega : ¬ m < 128) h2
  have hx : (numS m)[1] = UInt8.ofNat (m / 128).toNat := byte_at hp (r := []) (by rw [eb]; rfl)
  obtain ⟨y, hy, ey⟩ := wrap_up (x := (numS m)[1]) (by rw [hx, toNat_of (by omega) (by omega)]; omega)
  refine facts_of (by omega) (by omega) (by rw [enc_two (by omega) h2]; rfl) hA hB (by rw [Lib.extract_data, numS_data, eb]; rfl) ⟨y, hy, ?_⟩
  rw [app_data, app_data, strOne, ey, Lib.extract_data, numS_data, eb]
  rfl

theorem facts_three {m : Int} (h1 : 16384 ≤ m) (h2 : m < 2097152) {A B : ByteArray} (hA : A.size ≤ 140737488351232) (hB : B.size ≤ 140737488351232) (hp : 2 < (numS m).size) :
    CountedFacts m (numS m) A B ((numS m).extract 0 2) ((numS m).extract 0 2 ++ strOfNums [IntKind.u8.wrap ((((numS m)[2]).toNat : Int) + 128)] ++ ⟨#[0]⟩) 3 := by
  have eb := encB_three (by omega : ¬ m < 16384)
  have hx : (numS m)[2] = UInt8.ofNat (m / 16384).toNat := byte_at hp (r := []) (by rw [eb]; rfl)
  obtain ⟨y, hy, ey⟩ := wrap_up (x := (numS m)[2]) (by rw [hx, toNat_of (by omega) (by omega)]; omega)
  refine facts_of (by omega) (by omega) (by rw [enc_three (by omega)]; rfl) hA hB (by rw [Lib.extract_data, numS_data, eb]; rfl) ⟨y, hy, ?_⟩
  rw [app_data, app_data, strOne, ey, Lib.extract_data, numS_data, eb]
  rfl

end Go.Proofs.Ytoepcplbpochpaa
