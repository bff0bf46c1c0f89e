import Derived.Test.YtmjaobddgaglhaaGreatDoorFqa
import Derived.BigQuiet
/- Lists of tokens and numbers that grow; places in them. -/
namespace Go.Proofs.YtmjaobddgaglhaaGreatDoor
open Go.RowKit
set_option maxHeartbeats 4000000
set_option maxRecDepth 8000
theorem info26p : (Tryz.prog.info? 26).map (fun i => (i.zero, i.size, i.bytes)) = some (some (.agg #[I 0, I 0, I 0, .string ⟨#[]⟩, I 0, .bool false, I 0, I 0, .string ⟨#[]⟩]), 9, 88) := by kernel_rfl
theorem info3p : (Tryz.prog.info? 3).map (fun i => (i.zero, i.size, i.bytes)) = some (some (I 0), 1, 8) := by kernel_rfl
theorem appT_run (T : TypeId) (B : Nat) (v : Value) (l : List Tk) (t : Tk) (w : World) (h : TkO B w v l) (g : Nat) (hg : w.heap[g]? = some (.cells (tkc t).toArray 26 (0, 0))) (hn : l.length ≤ 1000000) (hB : B ≤ w.heap.size) :
    ∃ v' w', (Builtin.append_ #[61, 61] T #[v, .slice (some ⟨g, 0, none⟩) 1 1]).run Tryz.prog w = .ok v' w' ∧ TkO B w' v' (l ++ [t]) ∧ Only (fun k => v.ownBlock = some k) w w' ∧ (∀ k, v'.ownBlock = some k → v.ownBlock = some k ∨ w.heap.size ≤ k) := by
  obtain ⟨i0, hi, hz0, hz1, hz2⟩ := info_parts info26p
  obtain ⟨v', w', hr, h2, h3, _, h5⟩ := run_append_own_at (P := Tryz.prog) w B 61 T 26 i0 _ 9 88 Tryz.underlying61 hi hz0 hz1 hz2 rfl (by decide) v l.length (tks l) h ⟨g, 0, none⟩ 1 1 (tks [t]) (by rw [tks_len]; rfl) (fun j u hj => by
    have e : tks [t] = tkc t := by simp [tks]
    rw [e] at hj
    rw [show (⟨g, 0, none⟩ : Addr).add j = ⟨g, j, none⟩ by unfold Addr.add; split <;> simp_all]
    rw [cell_of_row w g j _ 26 (0, 0) hg]
    simpa using hj) (by rw [show tks [t] = tkc t by simp [tks]]; exact tkc_one t) (by unfold maxLen; omega) (by omega) hB
  refine ⟨v', w', hr, ?_, Only.of_grown h3, ?_⟩
  · unfold TkO
    rw [List.length_append, tks_cat]
    exact h2
  · intro k hk
    rcases h5 with h5 | h5
    · left; rw [← h5]; exact hk
    · right; rw [hk] at h5; have := Option.some.inj h5; omega
theorem appN_run (T : TypeId) (B : Nat) (v : Value) (l : List Int) (z : Int) (w : World) (h : NmO B w v l) (g : Nat) (hg : w.heap[g]? = some (.cells #[I z] 3 (0, 0))) (hn : l.length ≤ 1000000) (hB : B ≤ w.heap.size) :
    ∃ v' w', (Builtin.append_ #[62, 62] T #[v, .slice (some ⟨g, 0, none⟩) 1 1]).run Tryz.prog w = .ok v' w' ∧ NmO B w' v' (l ++ [z]) ∧ Only (fun k => v.ownBlock = some k) w w' ∧ (∀ k, v'.ownBlock = some k → v.ownBlock = some k ∨ w.heap.size ≤ k) := by
  obtain ⟨i0, hi, hz0, hz1, hz2⟩ := info_parts info3p
  obtain ⟨v', w', hr, h2, h3, _, h5⟩ := run_append_own_at (P := Tryz.prog) w B 62 T 3 i0 _ 1 8 Tryz.underlying62 hi hz0 hz1 hz2 rfl (by decide) v l.length (l.map fun z => I z) h ⟨g, 0, none⟩ 1 1 [I z] rfl (fun j u hj => by
    rw [show (⟨g, 0, none⟩ : Addr).add j = ⟨g, j, none⟩ by unfold Addr.add; split <;> simp_all]
    rw [cell_of_row w g j _ 3 (0, 0) hg]
    simpa using hj) (by intro u hu; simp at hu; subst hu; rfl) (by unfold maxLen; omega) (by omega) hB
  refine ⟨v', w', hr, ?_, Only.of_grown h3, ?_⟩
  · unfold NmO
    rw [List.length_append, List.map_append]
    exact h2
  · intro k hk
    rcases h5 with h5 | h5
    · left; rw [← h5]; exact hk
    · right; rw [hk] at h5; have := Option.some.inj h5; omega
theorem s_ix61 {w : World} (g n cap k : Nat) (hk : k < n) : (Instr.indexAt 61 (.slice (some ⟨g, 0, none⟩) n cap) (I (k : Int))).run Tryz.prog w = .ok (.pointer (some ⟨g, k * 9, none⟩)) w := by
  have h1 : (k : Int) < (n : Int) := by omega
  have u := Tryz.underlying61
  have z := Tryz.sizeOf26
  simp [go_sem, u, z, h1]
/-- A token of a list, loaded as a whole; one of its fields. -/
theorem tok_part {cur : Array Value} {l : List Tk} (h : cur.toList.take (l.length * 9) = tks l) {k : Nat} {t : Tk} (hk : l[k]? = some t) : (cur.toList.drop (k * 9)).take 9 = tkc t := by
  have hl := (List.getElem?_eq_some_iff.1 hk).1
  rw [← tks_at l k t hk, ← h, List.drop_take, List.take_take, Nat.min_eq_left (by omega)]
theorem num_at {w : World} {B g cap : Nat} {l : List Int} (h : NmO B w (.slice (some ⟨g, 0, none⟩) l.length cap) l) {k : Nat} {z : Int} (hk : l[k]? = some z) : w.cell? ⟨g, k, none⟩ = some (I z) := by
  have := World.ownsRow.cells h (g := g) rfl k (I z) (by rw [List.getElem?_map, hk]; rfl)
  rw [show (⟨g, 0, none⟩ : Addr).add k = ⟨g, k, none⟩ by unfold Addr.add; split <;> simp_all] at this
  exact this
/-- What a book says of a token that is shown. -/
def vdt (ed : Bool) (now en9 : Int) (k n : Nat) (z gr : Int) : Int := if ed then 5 else if en9 ≤ now then 4 else if k + 1 = n then 1 else if now - z < gr then 2 else 3
theorem verdict_any (B P : Nat) (cr us idl ab gr ge tk st en : Int) (l : List Tk) (sp : List Int) (ed : Bool) (u9 : Int) (v vl vs : Value) (k : Nat) (z now en9 : Int) (w : World) (h : BM B w P cr us idl ab gr ge tk st en l sp ed u9 v vl vs) (hk : k < l.length) (hl : l.length ≤ 1000) (hsp : sp[k]? = some z) (hz : 0 ≤ z ∧ z ≤ 1099511627776) (hn : 0 ≤ now ∧ now ≤ 1099511627776) :
    Calls Tryz.prog 29 #[ptr P, I k, I now, I en9] w fun e w' => e = .returned (I (vdt ed now en9 k l.length z gr)) ∧ Below w.heap.size w w' := by
  obtain ⟨gl, cl, _, rfl, _, _, _, _⟩ := row_form h.tok (by omega)
  obtain ⟨gs, cs, _, rfl, _, hgs, _, _⟩ := row_form h.spr (by have := (List.getElem?_eq_some_iff.1 hsp).1; omega)
  have hr := h.row
  have hz2 := num_at h.spr hsp
  have hks := (List.getElem?_eq_some_iff.1 hsp).1
  have c8 : w.cell? ⟨P, 8, none⟩ = some (I gr) := cellr hr rfl
  have c14 : w.cell? ⟨P, 14, none⟩ = some (.slice (some ⟨gl, 0, none⟩) l.length cl) := cellr hr rfl
  have c15 : w.cell? ⟨P, 15, none⟩ = some (.slice (some ⟨gs, 0, none⟩) sp.length cs) := cellr hr rfl
  have c16 : w.cell? ⟨P, 16, none⟩ = some (.bool ed) := cellr hr rfl
  have HV : Hid (vdt ed now en9 k l.length z gr = if ed then 5 else if en9 ≤ now then 4 else if k + 1 = l.length then 1 else if now - z < gr then 2 else 3) := hide rfl
  clear hr hgs h hsp
  generalize vdt ed now en9 k l.length z gr = V at *
  generalize l.length = n at *
  generalize sp.length = m at *
  obtain ⟨z1, z2⟩ := hz
  obtain ⟨n1, n2⟩ := hn
  cases ed
  case true =>
    have HE := hide (show V = 5 from unhide HV)
    clear HV
    go_enter Tryz.func29, Tryz.ntmps29
    go_wp2
    go_ret
    rw [unhide HE]
    exact ⟨rfl, Below.refl _ _⟩
  case false =>
    by_cases h1 : en9 ≤ now
    · have d1 : decide (en9 ≤ now) = true := by simpa using h1
      have HE := hide (show V = 4 by rw [unhide HV]; simp [h1])
      clear HV h1
      go_enter Tryz.func29, Tryz.ntmps29
      go_wp2
      go_ret
      rw [unhide HE]
      exact ⟨rfl, Below.refl _ _⟩
    · have d1 : decide (en9 ≤ now) = false := by simpa using h1
      by_cases h2 : k + 1 = n
      · have d2 : ((k : Int) == (n : Int) - 1) = true := by simp; omega
        have HE := hide (show V = 1 by rw [unhide HV]; simp [h1, h2])
        clear HV h1 h2
        go_enter Tryz.func29, Tryz.ntmps29
        go_wp2
        go_ret
        rw [unhide HE]
        exact ⟨rfl, Below.refl _ _⟩
      · have d2 : ((k : Int) == (n : Int) - 1) = false := by rw [beq_eq_false_iff_ne]; omega
        have hw : Below w.heap.size w (w.drewN 1) := Only.to_below (Only.drewN _ _ _)
        by_cases h3 : now - z < gr
        · have d3 : decide (now - z < gr) = true := by simpa using h3
          have HE := hide (show V = 2 by rw [unhide HV]; simp [h1, h2, h3])
          clear HV h1 h2 h3
          go_enter Tryz.func29, Tryz.ntmps29
          go_upto_region 7 with fail
          go_quiet (fail)
          go_wp2
          go_ret
          rw [unhide HE]
          exact ⟨rfl, Only.to_below (Only.drewN _ _ _)⟩
        · have d3 : decide (now - z < gr) = false := by simpa using h3
          have HE := hide (show V = 3 by rw [unhide HV]; simp [h1, h2, h3])
          clear HV h1 h2 h3
          go_enter Tryz.func29, Tryz.ntmps29
          go_upto_region 7 with fail
          go_quiet (fail)
          go_wp2
          go_ret
          rw [unhide HE]
          exact ⟨rfl, Only.to_below (Only.drewN _ _ _)⟩
end Go.Proofs.YtmjaobddgaglhaaGreatDoor
