import Derived.Test.YtbmcaejbfjpmiaaDoorApa
import Derived.Test.YtbmcaejbfjpmiaaDoorPal
import Derived.Test.YtbmcaejbfjpmiaaDoorTxa
namespace Go.Proofs.YtbmcaejbfjpmiaaDoor
open Go.RowKit Go.Lib
theorem new_block (w : World) (o : Obj) : (w.alloc o).heap[w.heap.size]? = some o := by
  show (w.heap.push o)[w.heap.size]? = some o
  simp
/-- The four texts that are asked. -/
def ask (s t : List UInt8) (k : Nat) : List UInt8 := if k = 2 then t else s
theorem ask_len {s t : List UInt8} {n : Nat} (hs : s.length ≤ n) (ht : t.length ≤ n) (k : Nat) : (ask s t k).length ≤ n := by
  unfold ask
  split
  · exact ht
  · exact hs
/-- What is asked, and the lists that came out so far. -/
structure Qry (w : World) (g b : Nat) (s t : List UInt8) (vs : Nat → Value) (k : Nat) (lv : Value) (wr : World) : Prop where
  lst : Lst b (fun j => flds (ask s t j)) vs k lv wr
  cell : ∀ j, j < 4 → wr.cell? ⟨g, j, none⟩ = some (S (ask s t j))
  low : g < b
  base : w.heap.size ≤ b
  from_ : Below w.heap.size w wr
variable {w wr W' : World} {g b k : Nat} {s t : List UInt8} {vs : Nat → Value} {lv : Value}
theorem Qry.below (h : Qry w g b s t vs k lv wr) (q : Below wr.heap.size wr W') : Qry w g b s t vs k lv W' :=
  ⟨h.lst.below q, fun j hj => (q.cell (by exact Nat.lt_of_lt_of_le h.low h.lst.room)).trans (h.cell j hj), h.low, h.base, h.from_.trans (q.mono (Nat.le_trans h.base h.lst.room))⟩
theorem Qry.push {p : Option Addr} {n c : Nat} {lv' : Value} (h : Qry w g b s t vs k lv wr) (hr : Row wr (.slice p n c) (flds (ask s t k))) (hn : ∀ g, (Value.slice p n c).ownBlock = some g → b ≤ g ∧ ∀ j, j < k → (vs j).ownBlock ≠ some g)
    (hs : Seq b 31 W' lv' ((List.range k).map vs ++ [.slice p n c])) (hg : (wr.alloc (.cells #[.slice p n c] 31)).grownBy W' lv.ownBlock) : Qry w g b s t (fun j => if j = k then .slice p n c else vs j) (k + 1) lv' W' := by
  obtain ⟨h1, h2⟩ := h.lst.push hr hn hs hg
  exact ⟨h1, fun j hj => (h2.cell (by exact h.low)).trans (h.cell j hj), h.low, h.base, h.from_.trans (h2.mono h.base)⟩
theorem Qry.new {p : Option Addr} {n c : Nat} (h : Qry w g b s t vs k lv wr) (hn : ∀ g, (Value.slice p n c).ownBlock = some g → wr.heap.size ≤ g) : ∀ g, (Value.slice p n c).ownBlock = some g → b ≤ g ∧ ∀ j, j < k → (vs j).ownBlock ≠ some g := by
  intro g' hg
  have h1 := hn g' hg
  refine ⟨Nat.le_trans h.lst.room h1, fun j hj e => ?_⟩
  have := (h.lst.row j hj).lt g' e
  omega
set_option maxHeartbeats 4000000 in
set_option maxRecDepth 8000 in
theorem parses_walk (s t : List UInt8) (w : World) (hE : Env w.heap.size w) (hs : s.length ≤ 9223372036854775807) (ht : t.length ≤ 9223372036854775807) :
    Calls Tryd.prog 4 #[S s, S t] w fun e w' => e = .returned (.bool true) ∧ Below w.heap.size w w' := by
  have HA := hide (adds_any s.length t.length w hs ht)
  by_cases hb : 2147483647 < addN s.length t.length
  · have ib : (2147483647 : Int) < (addN s.length t.length : Nat) := by omega
    generalize addN s.length t.length = A at *
    go_enter Tryd.func4, Tryd.ntmps4
    go_wp2_with fail
    refine (unhide HA).mono ?_
    rintro e w' ⟨rfl, rfl⟩
    go_wp2
    go_ret
    exact ⟨rfl, Below.refl _ _⟩
  · have hle := (addN_le (Nat.le_of_not_lt hb)).1
    have ib : ¬ (2147483647 : Int) < (addN s.length t.length : Nat) := by omega
    have HW := hide (awake_any w hE)
    have HP := hide (fun (k : Nat) (W : World) => parse_any (ask s t k) W (ask_len (by omega) (by omega) k))
    have HR := hide (fun (k : Nat) (W : World) => refParse_any (ask s t k) W (ask_len (by omega) (by omega) k))
    generalize addN s.length t.length = A at *
    clear hE hb hs ht hle
    go_enter Tryd.func4, Tryd.ntmps4
    go_wp2_with fail
    refine (unhide HA).mono ?_
    rintro e w' ⟨rfl, rfl⟩
    go_wp2_with fail
    refine (unhide HW).mono ?_
    rintro e w1 ⟨rfl, b1⟩
    have B1 := hide b1
    clear b1 HA HW
    go_wp2
    have hst := hide (show Qry w' w1.heap.size (w1.heap.size + 1) s t (fun _ => undef) 0 (.slice none 0 0) (w1.alloc (.cells #[S s, S s, S t, S s] 9)) from by
      refine ⟨Lst.start _ _ _ _ (by simp), fun j hj => ?_, by omega, by have := (unhide B1).size; omega, (unhide B1).alloc (unhide B1).size _⟩
      have hc : (w1.alloc (.cells #[S s, S s, S t, S s] 9)).heap[w1.heap.size]? = some (.cells #[S s, S s, S t, S s] 9 (0, 0)) := new_block _ _
      rw [cell_of_heap hc]
      rcases j with _ | _ | _ | _ | j
      · rfl
      · rfl
      · rfl
      · rfl
      · omega)
    have hN : (w1.alloc (.cells #[S s, S s, S t, S s] 9)).heap.size = w1.heap.size + 1 := by simp
    clear B1 hN
    generalize w1.alloc (.cells #[S s, S s, S t, S s] 9) = w2 at *
    generalize w1.heap.size = g at *
    clear w1
    go_loopw [7, 8] (fun lv i wr => ∃ (k : Nat) (vs : Nat → Value), k ≤ 4 ∧ i = .int .i64 k ∧ Qry w' g (g + 1) s t vs k lv wr) (fun _ i _ => 4 - (Go.RowKit.intOf i).toNat)
    case atStart => exact ⟨0, _, by omega, rfl, unhide hst⟩
    case round =>
      obtain ⟨k, vs, hk, rfl, hq⟩ := hrel
      clear hst
      by_cases hlt : k < 4
      · have hlt' : (k : Int) < 4 := by omega
        have hcell := hq.cell k hlt
        have HQ := hide hq
        clear hq
        go_wp2_with fail
        refine (unhide HP k wr).mono ?_
        rintro e w3 hT
        obtain ⟨p1, c1, rfl, hr1, hn1, hb1⟩ := hT.get
        have HQ3 := hide ((unhide HQ).below hb1)
        have HN := hide ((unhide HQ).new hn1)
        have HR1 := hide hr1
        have hcell3 := (unhide HQ3).cell k hlt
        clear hT hr1 hn1 hb1 HQ hcell
        go_wp2_with fail
        refine (unhide HR k w3).mono ?_
        rintro e w4 hT
        obtain ⟨p2, c2, rfl, hr2, hn2, hb2⟩ := hT.get
        have HQ4 := hide ((unhide HQ3).below hb2)
        have HR2 := hide ((unhide HR1).below hb2)
        have HS := hide (by
          obtain ⟨q1, d1, e1, f1⟩ := (unhide HR2).fls
          obtain ⟨q2, d2, e2, f2⟩ := hr2.fls
          cases e1
          cases e2
          exact same_any p1 p2 _ _ c1 c2 _ _ w4 f1 f2 (by have := flds_len (ask s t k); omega) (by have := flds_len (ask s t k); omega))
        clear hT hr2 hn2 hb2 HQ3 HR1 hcell3
        rw [show decide (flds (ask s t k) = flds (ask s t k)) = true from by simp] at HS
        generalize ecd (ask s t k) = ec at *
        generalize epl (ask s t k) = ep at *
        have hfl := flds_len (ask s t k)
        go_wp2_with fail
        refine (unhide HS).mono ?_
        rintro e w5 ⟨rfl, hb5⟩
        have HQ5 := hide ((unhide HQ4).below hb5)
        have HR5 := hide ((unhide HR2).below hb5)
        clear hb5 HQ4 HR2 HS
        go_wp2_with (first
          | (at_builtin; refine push30 rfl (.tmp 73) (.tmp 75) rfl _ ((List.range k).map vs) rfl w5 p1 (flds (ask s t k)).length c1 (unhide HQ5).lst.seq (by rfl) (by simp; omega) (unhide HQ5).lst.room ?_; intro v6 w6 hs6 hg6))
        refine ⟨⟨k + 1, _, by omega, by go_num, (unhide HQ5).push (unhide HR5) (unhide HN) hs6 hg6⟩, ?_⟩
        simp [Go.RowKit.intOf]; omega
      · have e4 : k = 4 := by omega
        have hlt' : ¬ (k : Int) < 4 := by omega
        have hd : decide ((k : Int) < 4) = false := by simpa using hlt'
        rw [e4] at hq
        clear e4
        obtain ⟨G, cap, _, _, rfl, _, _⟩ := hq.lst.at (show 0 < 4 by omega)
        have HQ := hide hq
        clear hq hlt hk
        go_wp2
        go_loopw [16] (fun i wr => ∃ (k : Nat), k ≤ 4 ∧ i = .int .i64 k ∧ Qry w' g (g + 1) s t vs 4 (.slice (some ⟨G, 0, none⟩) 4 cap) wr) (fun i _ => 4 - (Go.RowKit.intOf i).toNat)
        case atStart => exact ⟨0, by omega, rfl, unhide HQ⟩
        case round =>
          clear HQ hd hlt'
          obtain ⟨k, hk, rfl, hq⟩ := hrel
          by_cases hlt : k < 4
          · have hlt' : (k : Int) < 4 := by omega
            have hcell := hq.cell k hlt
            have HQ := hide hq
            clear hq
            go_wp2_with fail
            refine (unhide HR k wr).mono ?_
            rintro e w4 hT
            obtain ⟨p2, c2, rfl, hr2, hn2, hb2⟩ := hT.get
            have HQ4 := hide ((unhide HQ).below hb2)
            obtain ⟨G2, cap2, p1, c1, e1, hc1, hf1⟩ := (unhide HQ4).lst.at hlt
            cases e1
            have HS := hide (by
              obtain ⟨q2, d2, e2, f2⟩ := hr2.fls
              cases e2
              exact same_any p1 p2 _ _ c1 c2 _ _ w4 hf1 f2 (by have := flds_len (ask s t k); omega) (by have := flds_len (ask s t k); omega))
            clear hT hr2 hn2 hb2 HQ hcell hf1
            rw [show decide (flds (ask s t k) = flds (ask s t k)) = true from by simp] at HS
            generalize ecd (ask s t k) = ec at *
            generalize epl (ask s t k) = ep at *
            have hfl := flds_len (ask s t k)
            go_wp2_with fail
            refine (unhide HS).mono ?_
            rintro e w5 ⟨rfl, hb5⟩
            have HQ5 := hide ((unhide HQ4).below hb5)
            clear hb5 HQ4 HS
            go_wp2
            refine ⟨⟨k + 1, by omega, by go_num, unhide HQ5⟩, ?_⟩
            simp [Go.RowKit.intOf]; omega
          · have hlt' : ¬ (k : Int) < 4 := by omega
            have hd : decide ((k : Int) < 4) = false := by simpa using hlt'
            have HA := hide (apart_any w'.heap.size G 4 cap vs (fun j => flds (ask s t j)) wr (hq.lst.rows rfl hq.base) (by omega) (fun j _ => by have := flds_len (ask s t j); omega))
            have HB := hide hq.from_
            clear hq hlt hk
            go_wp2_with fail
            refine (unhide HA).mono ?_
            rintro e w6 ⟨rfl, hb6⟩
            have HC := hide ((unhide HB).trans hb6)
            clear HA HB hb6
            go_wp2
            go_ret
            exact ⟨rfl, unhide HC⟩
end Go.Proofs.YtbmcaejbfjpmiaaDoor
