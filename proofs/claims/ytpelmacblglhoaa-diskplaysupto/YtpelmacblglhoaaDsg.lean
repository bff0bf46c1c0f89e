import Derived.Test.YtpelmacblglhoaaZzae
namespace Go.Proofs.Ytpelmacblglhoaa
open Go.RowKit
set_option maxHeartbeats 4000000
set_option maxRecDepth 8000
/-- What holds of each disk. -/
structure Ok (d : Ds) : Prop where
  srt : Srt d.ws
  lt : ∀ x ∈ d.ws, x.1 < d.last.length ∧ x.2.length = 512
  sz : ∀ x ∈ d.last, x.length = 512
  len : 8 ≤ d.last.length ∧ d.last.length ≤ 4096
  fuse : 0 ≤ d.fuse ∧ d.fuse ≤ 9223372036854775807
theorem mem_getD {α : Type} {l : List α} {k : Nat} {z : α} (h : k < l.length) : l.getD k z ∈ l := by
  rw [List.getD_eq_getElem?_getD, List.getElem?_eq_getElem h]
  exact List.getElem_mem h
theorem Srt.ge {l : List Wr} (h : Srt l) (i : Nat) (hi : i < l.length) : i ≤ (l.getD i (0, [])).1 := by
  induction i with
  | zero => omega
  | succ i ih =>
    have h1 := ih (by omega)
    have h2 := h i (i + 1) (by omega) hi
    omega
theorem Ok.few {d : Ds} (h : Ok d) : d.ws.length ≤ 4096 := by
  rcases Nat.eq_zero_or_pos d.ws.length with q | q
  · omega
  · have h1 := h.srt.ge (d.ws.length - 1) (by omega)
    have h2 := (h.lt _ (mem_getD (z := (0, [])) (show d.ws.length - 1 < d.ws.length by omega))).1
    have := h.len.2
    omega
theorem find_any {D : Nat} {d : Ds} {vw vl : Value} {w : World} (h : DAt D d vw vl w) (ho : Ok d) (b : Nat) :
    Calls Try.prog 54 #[ptr D, I b] w fun e w' => e = .returned (.tuple #[S ((fnd d.ws b).getD []), .bool (fnd d.ws b).isSome]) ∧ Below w.heap.size w w' := by
  have H1 := hide (place_any h ho.srt (by have := ho.few; omega) b)
  obtain ⟨c0, c1, c2, c3, c4⟩ := h.c
  have hl := h.lt
  have HD := hide h
  have HS := hide ho.srt
  obtain ⟨p, cap, rfl, hp⟩ := Wls.of h.ws
  have HP := hide hp
  have hn := ho.few
  clear h hp ho
  go_enter Try.func54, Try.ntmps54
  go_wp2_with fail
  refine (unhide H1).mono ?_
  rintro e w1 ⟨i, hi, rfl, b1⟩
  have HB := hide b1
  have hc := (b1.cell (p := ⟨D, 0, none⟩) (by exact hl)).trans c0
  have hl1 : D < w1.heap.size := Nat.lt_of_lt_of_le hl b1.size
  cases hh : hit d.ws b i with
  | true =>
    have hf := fnd_hit hi hh
    obtain ⟨hi1, _⟩ : i < d.ws.length ∧ (d.ws.getD i (0, [])).1 = b := by simpa [hit] using hh
    obtain ⟨g, o, rfl, hg, q0, q1⟩ := ((unhide HP).below b1).at hi1
    have HF := hide hf
    clear hf hi b1
    have hi2 : (i : Int) < (d.ws.length : Int) := by omega
    generalize d.ws.getD i (0, []) = x at *
    obtain ⟨x1, x2⟩ := x
    simp only at q0 q1 HF
    go_wp2
    go_ret2
    refine ⟨?_, unhide HB⟩
    rw [unhide HF]
    rfl
  | false =>
    have HF := hide (fnd_miss (unhide HS) hi hh)
    clear hi b1
    go_wp2
    go_ret2
    refine ⟨?_, unhide HB⟩
    rw [unhide HF]
    rfl
/-- What stands on a block. -/
def cur (d : Ds) (b : Nat) : Bs := (fnd d.ws b).getD (d.last.getD b [])
def readS (d : Ds) (b : Int) : Bs := if reachv d b = 0 then cur d b.toNat else []
theorem reach_ok {d : Ds} {b : Int} (h : reachv d b = 0) : d.dead = false ∧ 0 ≤ b ∧ b < d.last.length := by
  unfold reachv at h
  split at h
  · omega
  · rename_i q
    split at h
    · omega
    · split at h
      · omega
      · exact ⟨by simpa using q, by omega, by omega⟩
theorem fnd_mem {l : List Wr} {b : Nat} {s : Bs} (h : fnd l b = some s) : (b, s) ∈ l := by
  unfold fnd at h
  cases q : l.find? (fun x => x.1 == b) with
  | none => rw [q] at h; cases h
  | some x =>
    rw [q] at h
    cases h
    have h1 := List.mem_of_find?_eq_some q
    have h2 := List.find?_some q
    have : x.1 = b := by simpa using h2
    rw [← this]
    exact h1
theorem cur_len {d : Ds} (h : Ok d) {b : Nat} (hb : b < d.last.length) : (cur d b).length = 512 := by
  unfold cur
  cases q : fnd d.ws b with
  | none => exact h.sz _ (mem_getD hb)
  | some s => exact (h.lt _ (fnd_mem q)).2
theorem read_any {D : Nat} {d : Ds} {vw vl : Value} {w : World} (h : DAt D d vw vl w) (ho : Ok d) (b : Int) :
    Calls Try.prog 29 #[ptr D, I b] w fun e w' => e = .returned (.tuple #[S (readS d b), I (reachv d b)]) ∧ Below w.heap.size w w' := by
  have H1 := hide (reach_any h b)
  by_cases hr : reachv d b = 0
  · obtain ⟨h1, h2, h3⟩ := reach_ok hr
    obtain ⟨c, rfl⟩ : ∃ c : Nat, b = (c : Int) := ⟨b.toNat, by omega⟩
    have h3' : c < d.last.length := by omega
    have H2 := hide (find_any h ho c)
    obtain ⟨c0, c1, c2, c3, c4⟩ := h.c
    have hl := h.lt
    obtain ⟨p, cap, rfl, hp, _⟩ := Sts.of h.ls
    have HP := hide hp
    have hlen := cur_len ho h3'
    have e1 : readS d c = cur d c := by unfold readS; rw [if_pos hr]; simp
    rw [hr] at H1
    rw [e1, hr]
    clear h hp ho e1 hr
    unfold cur at hlen ⊢
    go_enter Try.func29, Try.ntmps29
    go_wp2_with fail
    refine (unhide H1).mono ?_
    rintro e w1 ⟨rfl, rfl⟩
    go_wp2_with fail
    refine (unhide H2).mono ?_
    rintro e w2 ⟨rfl, b2⟩
    have HB := hide b2
    have hc := (b2.cell (p := ⟨D, 1, none⟩) (by exact hl)).trans c1
    have hl2 : D < w2.heap.size := Nat.lt_of_lt_of_le hl b2.size
    cases hq : fnd d.ws c with
    | some s =>
      rw [hq] at hlen
      have hs : s.length = 512 := hlen
      have H3 := hide (clone_any s w2 (by omega))
      clear b2 hlen
      go_wp2_with fail
      refine (unhide H3).mono ?_
      rintro e w3 ⟨rfl, b3⟩
      have HB3 := hide ((unhide HB).trans (b3.mono (unhide HB).size))
      clear b3
      go_wp2
      go_ret2
      exact ⟨by rw [hq]; rfl, unhide HB3⟩
    | none =>
      rw [hq] at hlen
      obtain ⟨g, o, rfl, hg, q0⟩ := ((unhide HP).below b2).at h3'
      have hs : (d.last.getD c []).length = 512 := hlen
      clear hlen b2
      generalize hx : d.last.getD c [] = x at *
      have H3 := hide (clone_any x w2 (by omega))
      have HX := hide hx
      clear hx
      go_wp2_with fail
      refine (unhide H3).mono ?_
      rintro e w3 ⟨rfl, b3⟩
      have HB3 := hide ((unhide HB).trans (b3.mono (unhide HB).size))
      clear b3
      go_wp2
      go_ret2
      exact ⟨by rw [hq, Option.getD_none, unhide HX]; rfl, unhide HB3⟩
  · have e1 : readS d b = [] := by unfold readS; rw [if_neg hr]
    rw [e1]
    clear h
    generalize reachv d b = r at *
    go_enter Try.func29, Try.ntmps29
    go_wp2_with fail
    refine (unhide H1).mono ?_
    rintro e w1 ⟨rfl, rfl⟩
    go_wp2
    go_ret2
    exact ⟨rfl, Below.refl _ _⟩
end Go.Proofs.Ytpelmacblglhoaa
