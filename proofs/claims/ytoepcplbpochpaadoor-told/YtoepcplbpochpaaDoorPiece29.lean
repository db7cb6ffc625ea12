/-
  Args out of raw numbers: lodgelaw.fit.
-/
import Derived.Test.YtoepcplbpochpaaDoorPiece28
import Derived.Test.YtoepcplbpochpaaDoorPiece2
import Derived.Test.YtoepcplbpochpaaDoorPiece16
import Derived.Handy
import Derived.OwnWalk
import Derived.Deep.RegionHeld3
import Derived.Test.YtoepcplbpochpaaDoorPiece13
import Derived.Test.YtoepcplbpochpaaDoorPiece24
import Derived.Test.YtoepcplbpochpaaDoorPiece26

namespace Go.Proofs.YtoepcplbpochpaaDoor
open Go.RowKit

theorem Tryd.infoLawFit : (Tryd.prog.info? 3).map (fun i => (i.zero, i.size, i.bytes)) = some (some (.int .i64 0), 1, 8) := by kernel_rfl

set_option maxRecDepth 100000 in
set_option maxHeartbeats 4000000 in
theorem lawFit_any (raw : List Int) (ao : Option Addr) (cap P : Nat) (w : World) (hH : HeldI w ao raw) (hv : ∀ i, i < raw.length → Rng (nth raw i)) (hl : raw.length ≤ 9223372036854775807) (hP : P ≤ 4) :
    Calls Tryd.prog 30 #[.slice ao raw.length cap, .int .i64 P] w fun e w' => ∃ v, e = .returned v ∧ w'.ownsRow w.heap.size 3 1 v P (intCells (fitTo raw P)) ∧ Below w.heap.size w w' := by
  have HH := hide hH
  have HV := hide hv
  have KP := hide (fun (c n : Int) (w : World) (h : Rng c) (hn : 0 < n) => lawPick_any c n w h.1 h.2 hn)
  obtain ⟨i0, hi, hz0, hz1, hz2⟩ := info_parts Tryd.infoLawFit
  clear hH hv
  go_enter Tryd.func30, Tryd.ntmps30
  go_wp2_with fail
  go_loopw [5, 6] (fun v i wr => ∃ k : Nat, k ≤ P ∧ i = .int .i64 k ∧ wr.ownsRow w.heap.size 3 1 v k (intCells (fitTo raw k)) ∧ Below w.heap.size w wr) (fun _ i _ => P - (intOf i).toNat)
  case atStart => exact ⟨0, Nat.zero_le _, rfl, World.ownsRow_nil _ _ _ _, Below.refl _ _⟩
  case round =>
    obtain ⟨k, hk, rfl, hown, hbel⟩ := hrel
    have hB := hbel.size
    by_cases hlt : k < P
    case neg =>
      obtain rfl : k = P := by omega
      go_wp2_with fail
      go_returns
      exact ⟨_, rfl, hown, hbel⟩
    have hki : (k : Int) < (P : Int) := by omega
    have HS : Hid (intCells (fitTo raw (k + 1)) = intCells (fitTo raw k) ++ [.int .i64 (fitV raw k)]) := by show intCells (fitTo raw k ++ [fitV raw k]) = _; exact intCells_snoc _ _
    by_cases h0 : raw.length = 0
    · have hv0 : fitV raw k = 0 := by unfold fitV; rw [if_pos h0]
      have hgt : ¬ (0 < (raw.length : Int)) := by omega
      rw [hv0] at HS
      have H0 := hide h0
      clear h0 hv0
      go_wp2_with (at_builtin; refine wpList_append_own _ rfl _ _ 32 rfl w.heap.size 3 i0 (.int .i64 0) 1 8 Tryd.underlying32 hi hz0 hz1 hz2 rfl (by decide) _ _ _ rfl (hown.alloc _) ⟨wr.heap.size, 0, none⟩ 1 1 [.int .i64 0] rfl rfl (cells_new _ _ (by simp) 3 _) (by intro u hu; simp only [List.mem_cons, List.not_mem_nil, or_false] at hu; subst hu; rfl) (by unfold maxLen; omega) (by omega) (by simp; omega) ?_)
      intro v' w2 hown' hgrow _
      have hb2 : Below w.heap.size w w2 := (hbel.alloc hbel.size _).grown hgrow (by simp; omega) (own_ge hown)
      rw [← unhide HS] at hown'
      clear hgrow hown
      go_wp2_with fail
      go_roundw
      case rel => exact ⟨k + 1, by omega, by go_num, hown', hb2⟩
      case measure => simp [intOf]; omega
    · have hv0 : fitV raw k = pickI (nth raw (k % raw.length)) 65536 := by unfold fitV; rw [if_neg h0]
      have hmod : k % raw.length < raw.length := Nat.mod_lt _ (by omega)
      obtain ⟨b, off, rfl, hb, hc⟩ : ∃ b off, ao = some ⟨b, off, none⟩ ∧ b < w.heap.size ∧ ∀ i, i < raw.length → w.cell? ⟨b, off + i, none⟩ = some (.int .i64 (nth raw i)) := by
        rcases unhide HH with h | h
        · subst h; exact absurd rfl h0
        · exact h
      have d1 : wr.cell? ⟨b, off + k % raw.length, none⟩ = some (.int .i64 (nth raw (k % raw.length))) := (hbel.cell (p := ⟨b, off + k % raw.length, none⟩) hb).trans (hc _ hmod)
      have hr := unhide HV _ hmod
      have hm : (k : Int).tmod (raw.length : Int) = ((k % raw.length : Nat) : Int) := by rw [Int.tmod_eq_emod_of_nonneg (by omega)]; rfl
      have hne : ((raw.length : Int) == 0) = false := by rw [beq_eq_false_iff_ne]; omega
      have hgt : 0 < (raw.length : Int) := by omega
      have i1 : (((k % raw.length : Nat) : Int)) < (raw.length : Int) := by omega
      rw [hv0] at HS
      obtain ⟨c, hce⟩ : ∃ c, c = nth raw (k % raw.length) := ⟨_, rfl⟩
      rw [← hce] at d1 HS hr
      obtain ⟨j, hje⟩ : ∃ j, j = k % raw.length := ⟨_, rfl⟩
      rw [← hje] at d1 hm i1
      have hm0 : 0 ≤ (k : Int).tmod (raw.length : Int) := by omega
      have hm1 : (k : Int).tmod (raw.length : Int) < (raw.length : Int) := by omega
      have hm2 : ((k : Int).tmod (raw.length : Int)).toNat = j := by omega
      clear hc hce hv0 hje hmod
      have H0 := hide h0
      clear h0
      go_wp2_with fail
      refine (unhide KP c 65536 _ hr (by decide)).mono ?_
      rintro _ w4 ⟨rfl, hw4⟩
      rw [hw4]
      clear hw4
      go_wp2_with (at_builtin; refine wpList_append_own _ rfl _ _ 32 rfl w.heap.size 3 i0 (.int .i64 0) 1 8 Tryd.underlying32 hi hz0 hz1 hz2 rfl (by decide) _ _ _ rfl (hown.alloc _) ⟨wr.heap.size, 0, none⟩ 1 1 [.int .i64 (pickI c 65536)] rfl rfl (cells_new _ _ (by simp) 3 _) (by intro u hu; simp only [List.mem_cons, List.not_mem_nil, or_false] at hu; subst hu; rfl) (by unfold maxLen; omega) (by omega) (by simp; omega) ?_)
      intro v' w2 hown' hgrow _
      have hb2 : Below w.heap.size w w2 := (hbel.alloc hbel.size _).grown hgrow (by simp; omega) (own_ge hown)
      rw [← unhide HS] at hown'
      clear hgrow hown d1
      go_wp2_with fail
      go_roundw
      case rel => exact ⟨k + 1, by omega, by go_num, hown', hb2⟩
      case measure => simp [intOf]; omega
end Go.Proofs.YtoepcplbpochpaaDoor

/-
  The walk through lodgelaw.Told.
-/
namespace Go.Proofs.YtoepcplbpochpaaDoor
open Go.RowKit

/-- What the document's run of a program answers, with the places of its Stops. -/
def RefPlaced : Prop := ∀ (P R V : Int) (L : List In4) (ac aa : Option Addr) (cc ca : Nat) (xs : List Int) (fuel : Int) (w : World), HeldIns w ac L → HeldI w aa xs → L.length ≤ 9223372036854775807 → xs.length ≤ 9223372036854775807 →
    Calls Tryd.prog 18 #[.agg #[.int .i64 P, .int .i64 R, .int .i64 V, .slice ac L.length cc], .slice aa xs.length ca, .int .i64 fuel] w (fun e w' => ∃ v vp, e = .returned (.tuple #[v, vp, .int .i64 (runE P R V L xs fuel).1]) ∧ ResOf w' w.heap.size v (runE P R V L xs fuel).2 ∧ ((runE P R V L xs fuel).1 = 0 → w'.ownsRow w.heap.size 3 1 vp (plI L fuel.toNat (st0 xs)).length (intCells (plI L fuel.toNat (st0 xs)))) ∧ Below w.heap.size w w')
theorem ref_placed (RP : RefPlaced) {P R V : Nat} {L : List In4} (hp : RightP P R V L) {xs : List Int} (hx : ArgsOk xs P) (ac aa : Option Addr) (cc ca f : Nat) (hf : f ≤ 100000) (w : World) (hH : HeldIns w ac L) (hA : HeldI w aa xs) :
    Calls Tryd.prog 18 #[.agg #[.int .i64 P, .int .i64 R, .int .i64 V, .slice ac L.length cc], .slice aa xs.length ca, .int .i64 f] w (fun e w' => ∃ v vp, e = .returned (.tuple #[v, vp, .int .i64 0]) ∧ ResOf w' w.heap.size v (runSt L f (st0 xs)) ∧ w'.ownsRow w.heap.size 3 1 vp (plI L f (st0 xs)).length (intCells (plI L f (st0 xs))) ∧ Below w.heap.size w w') := by
  have h := RP P R V L ac aa cc ca xs f w hH hA (by have := hp.n40; omega) (by have := hp.p4; have := hx.len; omega)
  rw [runE_ok hp hx hf] at h
  refine h.mono ?_
  rintro e w' ⟨v, vp, h1, h2, h3, h4⟩
  exact ⟨v, vp, h1, h2, h3 rfl, h4⟩
theorem plI_plSt (L : List In4) : ∀ (m : Nat) (s : St), plI L m s = (plSt L m s).map (fun n : Nat => (n : Int))
  | 0, _ => rfl
  | m + 1, s => by
    unfold plI plSt
    by_cases h : s.on = true
    · rw [if_pos h, if_pos h, List.map_append, ← plI_plSt L m]
      congr 1
      split <;> rfl
    · rw [if_neg h, if_neg h]; rfl
/-- What a row of what must be told says. -/
def MuOk (L : List In4) (V : Nat) (mu : Nat → Bool) : Prop := ∀ q, mu q = true → q % 4 < V ∧ ((factB L (q / 4) (q % 4)).k ≠ 0 → canB (factB L (q / 4) (q % 4)) (liveB L (q / 4)) = true)
theorem MuOk.set {L : List In4} {V : Nat} {mu : Nat → Bool} (h : MuOk L V mu) {i v : Nat} {b : Bool} (hv : v < V) (h4 : v < 4) (hb : b = true → (factB L i v).k ≠ 0 → canB (factB L i v) (liveB L i) = true) : MuOk L V (fun q => if q = i * 4 + v then b else mu q) := fun q hq => by
  by_cases e : q = i * 4 + v
  · have hq' : (if q = i * 4 + v then b else mu q) = true := hq
    rw [if_pos e] at hq'
    rw [show q / 4 = i by omega, show q % 4 = v by omega]
    exact ⟨hv, hb hq'⟩
  · have hq' : (if q = i * 4 + v then b else mu q) = true := hq
    rw [if_neg e] at hq'
    exact h q hq'
/-- At each Stop: what the unit tells is so, and what must be told is told. -/
def ToldOk (L : List In4) (V : Nat) (pl : List Int) (s t : St) : Prop := ∀ n, n < s.stops.length → n < t.stops.length ∧ ∃ i : Nat, nth pl n = (i : Int) ∧ i < L.length ∧ ∀ v, v < 4 → ((snAt t.stops n).v v ≠ -1 → (snAt t.stops n).v v = (snAt s.stops n).v v) ∧ ((snAt t.stops n).v v = -1 → ∀ mu, MuOk L V mu → mu (i * 4 + v) = false)
theorem told_ok {L : List In4} {V : Nat} {pl : List Nat} {s t : St} (h : AllStops L V pl s t) : ToldOk L V (pl.map (fun n : Nat => (n : Int))) s t := fun n h1 => by
  obtain ⟨x, y, i, e1, e2, e3, e4⟩ := h n h1
  have hx : snAt t.stops n = x := by unfold snAt; rw [List.getD_eq_getElem?_getD, e1]; rfl
  have hy : snAt s.stops n = y := by unfold snAt; rw [List.getD_eq_getElem?_getD, e2]; rfl
  refine ⟨(List.getElem?_eq_some_iff.1 e1).1, i, ?_, e4.lt, fun v hv => ?_⟩
  · unfold nth; rw [List.getD_eq_getElem?_getD, List.getElem?_map, e3]; rfl
  · rw [hx, hy]
    by_cases c : v < V ∧ canB (factB L i v) (liveB L i) = true
    · obtain ⟨t1, t2⟩ := e4.told v hv c.1 c.2
      refine ⟨fun _ => t1, fun hm => ?_⟩
      have t2' : 0 ≤ x.v v := t2
      omega
    · refine ⟨fun hne => absurd (e4.none v hv c) hne, fun _ mu hmu => ?_⟩
      cases e : mu (i * 4 + v) with
      | false => rfl
      | true =>
        obtain ⟨g1, g2⟩ := hmu _ e
        rw [show (i * 4 + v) % 4 = v by omega] at g1 g2
        rw [show (i * 4 + v) / 4 = i by omega] at g2
        exact absurd ⟨g1, g2 (e4.known v hv)⟩ c
theorem lawFit_args {raw : List Int} {P : Nat} : ArgsOk (fitTo raw P) P := ⟨fitTo_len raw P, fitTo_ok raw P⟩

set_option maxRecDepth 100000 in
set_option maxHeartbeats 8000000 in
theorem told_bad (P0 R0 V0 : Int) (L : List In4) (ac : Option Addr) (cc : Nat) (k : Int) (nums : List Int) (na : Option Addr) (nc : Nat) (n : Int) (w : World) (hH : HeldIns w ac L) (hl : L.length ≤ 9223372036854775807) (hT : Tab w) (hw0 : 0 < w.heap.size) (hE : cmpE P0 R0 V0 k L ≠ 0) :
    Calls Tryd.prog 8 #[.agg #[.int .i64 P0, .int .i64 R0, .int .i64 V0, .slice ac L.length cc], .int .i64 k, .slice na nums.length nc, .int .i64 n] w fun e w' => e = .returned (.bool true) ∧ Below w.heap.size w w' := by
  obtain ⟨w1, hw1, HP1, HL1, hz1⟩ := box_prog w P0 R0 V0 (.slice ac L.length cc)
  have KM := hide (made_bad P0 R0 V0 k L ac cc w1 (hH.below' (unhide HL1)) hl (hT.below (unhide HL1) hw0) (by omega) hE)
  obtain ⟨x, hx⟩ : ∃ x, x = cmpE P0 R0 V0 k L := ⟨_, rfl⟩
  rw [← hx] at KM hE
  unfold zUnit at KM
  have hne : (x != 0) = true := by rw [bne_iff_ne]; exact hE
  have HW := hide hw1
  clear hw1 hx hE
  go_enter Tryd.func8, Tryd.ntmps8
  go_upto_region 1 with fail
  rw [← unhide HW]
  have p0 := (unhide HP1).c0
  have p1 := (unhide HP1).c1
  have p2 := (unhide HP1).c2
  have p3 := (unhide HP1).c3
  go_wp2_with fail
  refine (unhide KM).mono ?_
  rintro _ w2 ⟨rfl, hb2⟩
  have HL2 : Hid (Below w.heap.size w w2) := (unhide HL1).trans (hb2.mono (by omega))
  have hs2 := (unhide HL2).size
  clear hb2 p0 p1 p2 p3
  go_wp2_with fail
  go_returns
  exact ⟨rfl, (unhide HL2).alloc hs2 _⟩

set_option maxRecDepth 100000 in
set_option maxHeartbeats 8000000 in
theorem told_good (RP : RefPlaced) (RU : RefUnit) (P R V K : Nat) (L : List In4) (ac : Option Addr) (cc : Nat) (nums : List Int) (na : Option Addr) (nc : Nat) (n : Int) (w : World) (hp : RightP P R V L) (hK : 2 ≤ K) (hK' : K ≤ 16) (hH : HeldIns w ac L)
    (hA : HeldI w na nums) (hnv : ∀ i, i < nums.length → Rng (nth nums i)) (hnl : nums.length ≤ 9223372036854775807) (hn : Rng n) (hT : Tab w) (hw0 : 0 < w.heap.size) :
    Calls Tryd.prog 8 #[.agg #[.int .i64 P, .int .i64 R, .int .i64 V, .slice ac L.length cc], .int .i64 K, .slice na nums.length nc, .int .i64 n] w fun e w' => e = .returned (.bool true) ∧ Below w.heap.size w w' := by
  have bn := pick_lt n 25000 (by decide)
  obtain ⟨f, hfe⟩ : ∃ f : Nat, (f : Int) = pickI n 25000 := ⟨(pickI n 25000).toNat, by omega⟩
  have hf : f < 25000 := by omega
  have HFE := hide hfe
  clear hfe bn
  have hL40 := hp.n40
  have hV4 := hp.v4
  have KP := hide (fun (c n : Int) (w : World) (h : Rng c) (hn : 0 < n) => lawPick_any c n w h.1 h.2 hn)
  obtain ⟨w1, hw1, HP1, HL1, hz1⟩ := box_prog w P R V (.slice ac L.length cc)
  have HW := hide hw1
  have HLP1 : Hid (HeldIns w1 ac L ∧ HeldI w1 na nums ∧ Tab w1) := ⟨hH.below' (unhide HL1), hA.below (unhide HL1), hT.below (unhide HL1) hw0⟩
  have KM := hide (made_good P R V K L ac cc w1 hp hK hK' (unhide HLP1).1 (unhide HLP1).2.2 (by omega))
  have HNV := hide hnv
  clear hw1 hH hA hT hnv
  go_enter Tryd.func8, Tryd.ntmps8
  go_upto_region 1 with fail
  rw [← unhide HW]
  have p0 := (unhide HP1).c0
  have p1 := (unhide HP1).c1
  have p2 := (unhide HP1).c2
  have p3 := (unhide HP1).c3
  go_wp2_with fail
  refine (unhide KM).mono ?_
  rintro _ w2 ⟨uo, uc, rfl, hown2, hb2⟩
  unfold unitV
  clear p0 p1 p2 p3 KM
  obtain ⟨w3, hw3, HU3', HL3', hz3⟩ := box_unit w2 K (slotsB L P R K) P V (.slice uo (cmpC P R K L).length uc) (encT (cmpR P R V K L))
  have HLU3 : Hid (LabU w3 w2.heap.size P R V K L uo uc) := ⟨unhide HU3', (held_own hown2).below' (unhide HL3')⟩
  have hb13 : Below w1.heap.size w1 w3 := hb2.trans ((unhide HL3').mono hb2.size)
  have HP3 := hide ((hb13.block w.heap.size (by omega)).trans (unhide HP1))
  have HLP3 : Hid (HeldIns w3 ac L ∧ HeldI w3 na nums ∧ Tab w3) := ⟨(unhide HLP1).1.below' hb13, (unhide HLP1).2.1.below hb13, (unhide HLP1).2.2.below hb13 (by omega)⟩
  have HL3 : Hid (Below w.heap.size w w3) := (unhide HL1).trans (hb13.mono (by omega))
  have hsz3 := hb13.size
  have HW3 := hide hw3
  have hP4 : P ≤ 4 := by have := hp.p4; omega
  have q0 : w3.cell? ⟨w.heap.size, 0, none⟩ = some (.int .i64 P) := ProgB.c0 (unhide HP3)
  clear hw3 hb2 hb13 hown2 HLP1 HL1 HU3' HL3' HP1 HW
  go_upto_region 2 with fail
  rw [← unhide HW3]
  go_wp2_with fail
  refine (lawFit_any nums na nc P w3 (unhide HLP3).2.1 (unhide HNV) hnl hP4).mono ?_
  rintro _ w5 ⟨va, rfl, hown5, hb5⟩
  have hx : ArgsOk (fitTo nums P) P := lawFit_args
  obtain ⟨aa, ca, hve, hA5, _⟩ := own_heldI (xs := fitTo nums P) (by rw [fitTo_len]; exact hown5)
  subst hve
  obtain ⟨xs, hxs⟩ : ∃ xs, xs = fitTo nums P := ⟨_, rfl⟩
  rw [← hxs] at hx hA5
  rw [← hxs]
  have HLP7 : Hid (LabP w5 w.heap.size P R V L ac cc aa xs) := ⟨(hb5.block _ (by omega)).trans (unhide HP3), (unhide HLP3).1.below' hb5, hA5, (unhide HLP3).2.2.below hb5 (by omega), by have := hb5.size; omega⟩
  have HLU7 := hide ((unhide HLU3).below hb5)
  have HL7 : Hid (Below w.heap.size w w5) := (unhide HL3).trans (hb5.mono (unhide HL3).size)
  clear hown5 hA5 hb5 HP3 HLP3 HLU3 HL3 hxs q0 HNV HW3
  have KA := hide (fun w' (h : LabP w' w.heap.size P R V L ac cc aa xs) => ref_placed RP hp hx ac aa cc ca f (by omega) w' h.code h.args)
  have KB := hide (fun w' (h : LabP w' w.heap.size P R V L ac cc aa xs) (h' : LabU w' w2.heap.size P R V K L uo uc) => ref_mach RU hp hK hK' hx uo aa uc ca (4 * f + 4) (by omega) w' h'.code h.args)
  have hsim := (sim_fwd hp hK hK' none xs hx.len hx.val f).2
  have HTO : Hid (ToldOk L V (plI L f (st0 xs)) (runSt L f (st0 xs)) (runSt (cmpC P R K L) (4 * f + 4) (stU (cmpR P R V K L) none xs))) := by unfold Hid; rw [plI_plSt]; exact told_ok hsim.1
  have hpll : (plI L f (st0 xs)).length = (runSt L f (st0 xs)).stops.length := by rw [plI_plSt, List.length_map]; exact hsim.2
  have KM := hide (fun (i v : Nat) (hi : i < L.length) w' (h : HeldIns w' ac L) => must_any P R V L ac cc i v hp hi w' h)
  have hla := run_len L f (st0 xs)
  have hlb := run_len (cmpC P R K L) (4 * f + 4) (stU (cmpR P R V K L) none xs)
  rw [show (st0 xs).stops.length = 0 from rfl] at hla
  rw [show (stU (cmpR P R V K L) none xs).stops.length = 0 from rfl] at hlb
  obtain ⟨sa, hsa⟩ : ∃ sa, sa = runSt L f (st0 xs) := ⟨_, rfl⟩
  obtain ⟨sb, hsb⟩ : ∃ sb, sb = runSt (cmpC P R K L) (4 * f + 4) (stU (cmpR P R V K L) none xs) := ⟨_, rfl⟩
  obtain ⟨pl, hple⟩ : ∃ pl, pl = plI L f (st0 xs) := ⟨_, rfl⟩
  rw [← hsa] at KA hla HTO hpll
  rw [← hsb] at KB hlb HTO
  rw [← hple] at KA HTO hpll
  rw [show ((4 * f + 4 : Nat) : Int) = 4 * (f : Int) + 4 by omega] at KB
  have w4f : IntKind.i64.wrap (4 * (f : Int)) = 4 * (f : Int) := by rw [IntKind.wrap_i64]; omega
  have w4f' : IntKind.i64.wrap (4 * (f : Int) + 4) = 4 * (f : Int) + 4 := by rw [IntKind.wrap_i64]; omega
  clear hsa hsb hple hsim hp hx
  obtain ⟨S, hS⟩ : ∃ S, S = slotsB L P R K := ⟨_, rfl⟩
  obtain ⟨C, hC⟩ : ∃ C, C = cmpC P R K L := ⟨_, rfl⟩
  obtain ⟨T, hTe⟩ : ∃ T, T = encT (cmpR P R V K L) := ⟨_, rfl⟩
  have HSE := hide hS
  have HCE := hide hC
  have HTE := hide hTe
  rw [← hS, ← hC, ← hTe] at KB
  rw [← hS, ← hC, ← hTe]
  clear hS hC hTe
  go_wp2_with fail
  refine (unhide KP n 25000 _ hn (by decide)).mono ?_
  rintro _ w8 ⟨rfl, hw8⟩
  rw [hw8, ← unhide HFE]
  clear hw8
  have q0 := (unhide HLP7).prog.c0
  have q1 := (unhide HLP7).prog.c1
  have q2 := (unhide HLP7).prog.c2
  have q3 := (unhide HLP7).prog.c3
  go_wp2_with fail
  refine (unhide KA w5 (unhide HLP7)).mono ?_
  rintro _ w8 ⟨va, vp, rfl, hres, hpo, hbr⟩
  obtain ⟨po, pc, rfl, hpl8, _⟩ := own_heldI hpo
  obtain ⟨o1, c1, o2, c2, rfl, w9, hw9, HA9, HB9, hz8⟩ := after_prog hres hbr
  have HPL9 : Hid (HeldI w9 po pl) := hpl8.below (by rw [hw9]; exact below_alloc _ _)
  have HW9 := hide hw9
  have HLP9 := hide ((unhide HLP7).below (unhide HB9))
  have HLU9 := hide ((unhide HLU7).below (unhide HB9))
  have HL9 : Hid (Below w.heap.size w w9) := (unhide HL7).trans ((unhide HB9).mono (unhide HL7).size)
  clear hw9 hres hbr hpo hpl8 q0 q1 q2 q3 HLP7 HLU7 HL7 HB9 KA
  go_upto_region 7 with fail
  rw [← unhide HW9]
  obtain ⟨u0, u1, u2, u3, u4, u5⟩ := labu_cells (unhide HLU9)
  rw [← unhide HSE] at u1
  rw [← unhide HCE] at u4
  rw [← unhide HTE] at u5
  go_wp2_with fail
  refine (unhide KB w9 (unhide HLP9) (unhide HLU9)).mono ?_
  rintro _ w10 hpost
  obtain ⟨o3, c3, o4, c4, rfl, w11, hw11, HB11, HL11', hz10⟩ := after_run hpost
  have HW11 := hide hw11
  have HLP11 := hide ((unhide HLP9).below (unhide HL11'))
  have HA11 := hide ((unhide HA9).below (unhide HL11'))
  have HPL11 : Hid (HeldI w11 po pl) := (unhide HPL9).below (unhide HL11')
  have HL11 : Hid (Below w.heap.size w w11) := (unhide HL9).trans ((unhide HL11').mono (unhide HL9).size)
  clear hw11 hpost u0 u1 u2 u3 u4 u5 HLP9 HLU9 HL9 HA9 HPL9 HL11' KB HW9
  go_upto_region 8 with fail
  rw [← unhide HW11]
  have hmk := makeB (L.length * 4) (by omega) w11
  rw [show ((L.length * 4 : Nat) : Int) = (L.length : Int) * 4 by omega] at hmk
  obtain ⟨w12, hw12⟩ : ∃ w12, w12 = w11.alloc (.cells (rowA (L.length * 4) (fun _ => .bool false)) 4) := ⟨_, rfl⟩
  rw [← hw12] at hmk
  have HR12 : Hid (Rowd w12 w11.heap.size 4 (L.length * 4) (fun k => .bool ((fun _ => false : Nat → Bool) k))) := by rw [hw12]; exact rowd_alloc _ _ _ _
  have HK12 : Hid (Below w11.heap.size w11 w12) := by rw [hw12]; exact below_alloc _ _
  have p3 := (unhide HLP11).prog.c3
  have wL4 : IntKind.i64.wrap ((L.length : Int) * 4) = (L.length : Int) * 4 := by rw [IntKind.wrap_i64]; omega
  clear hw12 HW11
  go_wp2_with fail
  clear p3 hmk wL4
  go_loopw [19] (fun vi wr => ∃ (i : Nat) (mu : Nat → Bool), i ≤ L.length ∧ vi = .int .i64 i ∧ Hid (Rowd wr w11.heap.size 4 (L.length * 4) (fun k => .bool (mu k))) ∧ Hid (MuOk L V mu) ∧ Hid (Below w11.heap.size w11 wr)) (fun vi _ => L.length - (intOf vi).toNat)
  case atStart => exact ⟨0, _, Nat.zero_le _, rfl, unhide HR12, (fun q hq => Bool.noConfusion hq), unhide HK12⟩
  case round =>
    clear HR12 HK12
    obtain ⟨i, mu, hi, rfl, HR, HMU, HK⟩ := hrel
    have HLPr := hide ((unhide HLP11).below (unhide HK))
    have p3 := (unhide HLPr).prog.c3
    by_cases hil : i < L.length
    · have hii : (i : Int) < (L.length : Int) := by omega
      obtain ⟨wo, rfl⟩ : ∃ wo, wo = wr := ⟨_, rfl⟩
      go_wp2_with fail
      go_loopw [20] (fun vv wr => ∃ (v : Nat) (mu : Nat → Bool), v ≤ V ∧ vv = .int .i64 v ∧ Hid (Rowd wr w11.heap.size 4 (L.length * 4) (fun k => .bool (mu k))) ∧ Hid (MuOk L V mu) ∧ Hid (Below w11.heap.size w11 wr)) (fun vv _ => V - (intOf vv).toNat)
      case atStart => exact ⟨0, mu, Nat.zero_le _, rfl, unhide HR, unhide HMU, unhide HK⟩
      case round =>
        clear HR HMU HK HLPr p3
        obtain ⟨v, mu, hv, rfl, HR, HMU, HK⟩ := hrel
        have HLPr := hide ((unhide HLP11).below (unhide HK))
        have p2 := (unhide HLPr).prog.c2
        by_cases hvl : v < V
        · have hvi : (v : Int) < (V : Int) := by omega
          have p0 := (unhide HLPr).prog.c0
          have p1 := (unhide HLPr).prog.c1
          have p3 := (unhide HLPr).prog.c3
          have KM1 := hide (unhide KM i v hil wr (unhide HLPr).code)
          have wi : IntKind.i64.wrap ((i : Int) * 4) = (i : Int) * 4 := by rw [IntKind.wrap_i64]; omega
          have wv : IntKind.i64.wrap ((i : Int) * 4 + (v : Int)) = (i : Int) * 4 + (v : Int) := by rw [IntKind.wrap_i64]; omega
          have b0 : 0 ≤ (i : Int) * 4 + (v : Int) := by omega
          have b1 : (i : Int) * 4 + (v : Int) < (L.length : Int) * 4 := by omega
          have b2 : ((i : Int) * 4 + (v : Int)).toNat = i * 4 + v := by omega
          go_wp2_with fail
          refine (unhide KM1).mono ?_
          rintro _ w13 ⟨b, rfl, hbt, hb13⟩
          have HR13 := hide ((unhide HR).below hb13)
          have HK13 : Hid (Below w11.heap.size w11 w13) := (unhide HK).trans (hb13.mono (unhide HK).size)
          have cc0 := (unhide HR13).cell (i := i * 4 + v) (by omega)
          have cf := (unhide HR13).free
          have HMU' := hide ((unhide HMU).set (i := i) (v := v) hvl (by omega) hbt)
          clear p0 p1 p2 p3 hb13 hbt HR HK HMU KM1
          obtain ⟨ov, hov⟩ : ∃ ov, ov = Value.bool (mu (i * 4 + v)) := ⟨_, rfl⟩
          rw [← hov] at cc0
          clear hov
          go_wp2_with fail
          go_roundw
          case rel =>
            refine ⟨v + 1, _, by omega, by go_num, ((unhide HR13).set (i * 4 + v) (.bool b)).congr (fun q _ => ?_), unhide HMU', (unhide HK13).setCell (p := ⟨w11.heap.size, i * 4 + v, none⟩) (Nat.le_refl _) _⟩
            by_cases e : q = i * 4 + v
            · rw [if_pos e, if_pos e]
            · rw [if_neg e, if_neg e]
          case measure => simp [intOf]; omega
        · obtain rfl : v = V := by omega
          go_wp2_with fail
          go_roundw
          case rel => exact ⟨i + 1, mu, by omega, by go_num, unhide HR, unhide HMU, unhide HK⟩
          case measure => simp [intOf]; omega
    · obtain rfl : i = L.length := by omega
      have HL13 : Hid (Below w.heap.size w wr) := (unhide HL11).trans ((unhide HK).mono (unhide HL11).size)
      have HA13 := hide ((unhide HA11).below (unhide HK))
      have HB13 := hide ((unhide HB11).below (unhide HK))
      have HPL13 : Hid (HeldI wr po pl) := (unhide HPL11).below (unhide HK)
      have a4 := (unhide HA13).c4
      have b4 := (unhide HB13).c4
      obtain ⟨oa', ca', ea, hSA, hla2⟩ := own_heldS (unhide HA13).stops
      obtain ⟨ob', cb', eb, hSB, hlb2⟩ := own_heldS (unhide HB13).stops
      injection ea with ea1
      injection eb with eb1
      subst ea1 eb1
      unfold maxLen at hla2 hlb2
      have HSA := hide hSA
      have HSB := hide hSB
      clear hSA hSB HA11 HB11 HPL11 HL11 HLP11 HLPr HK HA13 HB13 KM
      go_wp2_with fail
      clear p3
      obtain ⟨w13, rfl⟩ : ∃ w13, w13 = wr := ⟨_, rfl⟩
      go_loopw [21] (fun i' wr => ∃ j : Nat, j ≤ sa.stops.length ∧ i' = .int .i64 j ∧ wr = w13) (fun i' _ => sa.stops.length - (intOf i').toNat)
      case atStart => exact ⟨0, Nat.zero_le _, rfl, rfl⟩
      case round =>
        obtain ⟨j, hj, rfl, rfl⟩ := hrel
        by_cases j1 : j < sa.stops.length
        case neg =>
          have c : ¬ ((j : Int) < (sa.stops.length : Int)) := by omega
          go_wp2_with fail
          go_returns
          exact ⟨rfl, unhide HL13⟩
        obtain ⟨j2, pi, hpi, hpil, hTJ⟩ := unhide HTO j j1
        have c : (j : Int) < (sa.stops.length : Int) := by omega
        have c' : (j : Int) < (sb.stops.length : Int) := by omega
        have cj : (0 : Int) ≤ (j : Int) := by omega
        have cp : (j : Int) < (pl.length : Int) := by omega
        obtain ⟨ba, oa, rfl, hba, ga⟩ : ∃ b off, o2 = some ⟨b, off, none⟩ ∧ b < wr.heap.size ∧ ∀ i, i < sa.stops.length → SeenC wr b (off + i * 5) (snAt sa.stops i) := by
          rcases unhide HSA with h | h
          · rw [h] at j1; exact absurd j1 (Nat.not_lt_zero _)
          · exact h
        obtain ⟨bb, ob, rfl, hbb, gb⟩ : ∃ b off, o4 = some ⟨b, off, none⟩ ∧ b < wr.heap.size ∧ ∀ i, i < sb.stops.length → SeenC wr b (off + i * 5) (snAt sb.stops i) := by
          rcases unhide HSB with h | h
          · rw [h] at j2; exact absurd j2 (Nat.not_lt_zero _)
          · exact h
        obtain ⟨bp, op, rfl⟩ := heldI_some (unhide HPL13) (by omega)
        have cpl := (heldI_at (unhide HPL13) (k := j) (by omega)).1
        rw [hpi] at cpl
        have HGa := hide (ga j j1).2
        have HGb := hide (gb j j2).2
        have HTJ := hide hTJ
        clear ga gb hTJ hpi
        go_wp2_with fail
        go_loopw [22] (fun i' wx => ∃ v : Nat, v ≤ 4 ∧ i' = .int .i64 v ∧ wx = wr) (fun i' _ => 4 - (intOf i').toNat)
        case atStart => exact ⟨0, Nat.zero_le _, rfl, rfl⟩
        case round =>
          obtain ⟨v, hv4, rfl, rfl⟩ := hrel
          by_cases v1 : v < 4
          case neg =>
            obtain rfl : v = 4 := by omega
            go_wp2_with fail
            go_roundw
            case rel => exact ⟨j + 1, by omega, by go_num, by first | rfl | trivial⟩
            case measure => simp [intOf]; omega
          have e1 := unhide HGb v v1
          have e2 := unhide HGa v v1
          obtain ⟨t1, t2⟩ := unhide HTJ v v1
          obtain ⟨x, hx⟩ : ∃ x, x = (snAt sb.stops j).v v := ⟨_, rfl⟩
          obtain ⟨y, hy⟩ : ∃ y, y = (snAt sa.stops j).v v := ⟨_, rfl⟩
          rw [← hx] at e1 t1 t2
          rw [← hy] at e2 t1
          have v2 : (v : Int) < 4 := by omega
          have v3 : (0 : Int) ≤ (v : Int) := by omega
          clear hx hy
          by_cases x1 : x = -1
          · subst x1
            have hmu := t2 rfl mu (unhide HMU)
            have cm := (unhide HR).cell (i := pi * 4 + v) (by omega)
            rw [hmu] at cm
            have wi : IntKind.i64.wrap ((pi : Int) * 4) = (pi : Int) * 4 := by rw [IntKind.wrap_i64]; omega
            have wv : IntKind.i64.wrap ((pi : Int) * 4 + (v : Int)) = (pi : Int) * 4 + (v : Int) := by rw [IntKind.wrap_i64]; omega
            have b0 : 0 ≤ (pi : Int) * 4 + (v : Int) := by omega
            have b1 : (pi : Int) * 4 + (v : Int) < (L.length : Int) * 4 := by omega
            have b2 : ((pi : Int) * 4 + (v : Int)).toNat = pi * 4 + v := by omega
            clear t1 t2 hmu
            go_wp2_with fail
            go_roundw
            case rel => exact ⟨v + 1, by omega, by go_num, by first | rfl | trivial⟩
            case measure => simp [intOf]; omega
          · have hxy : x = y := t1 x1
            subst hxy
            have x1' : (x != -1) = true := by rw [bne_iff_ne]; exact x1
            have x1'' : (x == -1) = false := by rw [beq_eq_false_iff_ne]; exact x1
            have HX1 := hide x1
            clear t1 t2 x1
            go_wp2_with fail
            go_roundw
            case rel => exact ⟨v + 1, by omega, by go_num, by first | rfl | trivial⟩
            case measure => simp [intOf]; omega

theorem told_walk (RP : RefPlaced) (RU : RefUnit) (P0 R0 V0 : Int) (L : List In4) (ac : Option Addr) (cc : Nat) (k : Int) (nums : List Int) (na : Option Addr) (nc : Nat) (n : Int) (w : World) (hH : HeldIns w ac L) (hl : L.length ≤ 9223372036854775807)
    (hA : HeldI w na nums) (hnv : ∀ i, i < nums.length → Rng (nth nums i)) (hnl : nums.length ≤ 9223372036854775807) (hn : Rng n) (hT : Tab w) (hw0 : 0 < w.heap.size) :
    Calls Tryd.prog 8 #[.agg #[.int .i64 P0, .int .i64 R0, .int .i64 V0, .slice ac L.length cc], .int .i64 k, .slice na nums.length nc, .int .i64 n] w fun e w' => e = .returned (.bool true) ∧ Below w.heap.size w w' := by
  by_cases hE : cmpE P0 R0 V0 k L = 0
  case neg => exact told_bad P0 R0 V0 L ac cc k nums na nc n w hH hl hT hw0 hE
  unfold cmpE at hE
  by_cases h1 : (progE P0 R0 V0 L).1 = 0
  case neg => rw [if_pos h1] at hE; exact absurd hE h1
  rw [if_neg (fun h => h h1)] at hE
  by_cases h2 : k < 2 ∨ 16 < k
  case pos => rw [if_pos h2] at hE; cases hE
  have hp := rightP_of P0 R0 V0 L h1
  obtain ⟨P, rfl⟩ : ∃ P : Nat, P0 = P := ⟨P0.toNat, by have := hp.p0; omega⟩
  obtain ⟨R, rfl⟩ : ∃ R : Nat, R0 = R := ⟨R0.toNat, by have := hp.r1; omega⟩
  obtain ⟨V, rfl⟩ : ∃ V : Nat, V0 = V := ⟨V0.toNat, by have := hp.v0; omega⟩
  obtain ⟨K, rfl⟩ : ∃ K : Nat, k = K := ⟨k.toNat, by omega⟩
  exact told_good RP RU P R V K L ac cc nums na nc n w hp (by omega) (by omega) hH hA hnv hnl hn hT hw0
end Go.Proofs.YtoepcplbpochpaaDoor
