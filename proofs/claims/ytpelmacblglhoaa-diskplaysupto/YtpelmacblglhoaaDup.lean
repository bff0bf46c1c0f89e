import Derived.Test.YtpelmacblglhoaaZzbj
namespace Go.Proofs.Ytpelmacblglhoaa
open Go.RowKit
set_option maxHeartbeats 4000000
set_option maxRecDepth 8000
theorem range_snoc (n : Nat) (f : Nat → Value) (v : Value) : (List.range (n + 1)).map (fun i => if i = n then v else f i) = (List.range n).map f ++ [v] := by
  rw [List.range_succ, List.map_append]
  congr 1
  · apply List.map_congr_left
    intro i hi
    have : i < n := by simpa using hi
    rw [if_neg (by omega)]
  · simp
section
variable {w0 w w' : World} {K Z : Nat} {s : Ws}
theorem WI.add1 (h : WI w0 K Z none s w) {V V2 : Value} {l : List Bs} {m1 m2 : Nat} {pf' pw' : Option Addr} {cf' cw' : Nat}
    (hV : w.ownsRow 0 9 1 V l.length (l.map S)) (hVt : ∀ k, V.ownBlock = some k → (s.tag k).1 = 7) (hl : l.length ≤ 100000) (hroom : s.f1 + s.N1 + 1 ≤ 2 * K)
    (ho : Only (fun k => k = Z ∨ (Value.slice s.pf1 s.N1 s.cf1).ownBlock = some k ∨ (Value.slice s.pw1 s.N1 s.cw1).ownBlock = some k) w w')
    (hb : w'.heap[Z]? = some (.cells ({ s with N1 := s.N1 + 1, pf1 := pf', cf1 := cf', pw1 := pw', cw1 := cw' } : Ws).cs 30 (0, 0)))
    (rf : w'.ownsRow 0 28 1 (.slice pf' (s.N1 + 1) cf') (s.N1 + 1) ((List.range s.N1).map s.vs1 ++ [V]))
    (rw_ : w'.ownsRow 0 28 1 (.slice pw' (s.N1 + 1) cw') (s.N1 + 1) ((List.range s.N1).map s.ws1 ++ [V2]))
    (hf : ∀ k, (Value.slice pf' (s.N1 + 1) cf').ownBlock = some k → (Value.slice s.pf1 s.N1 s.cf1).ownBlock = some k ∨ (w.heap.size ≤ k ∧ k < m1))
    (hw : ∀ k, (Value.slice pw' (s.N1 + 1) cw').ownBlock = some k → (Value.slice s.pw1 s.N1 s.cw1).ownBlock = some k ∨ m2 ≤ k)
    (hm : w.heap.size ≤ m1) (hm2 : m1 ≤ m2)
    (h2 : ∃ p2 c2, V2 = .slice p2 l.length c2 ∧ (0 < l.length → ∃ g, p2 = some ⟨g, 0, none⟩ ∧ m1 ≤ g ∧ g < m2 ∧ g < w'.heap.size ∧ ∀ j u, (l.map S)[j]? = some u → w'.cell? ⟨g, j, none⟩ = some u)) :
    ∃ tag', (∀ k, k < w.heap.size → (s.tag k).1 ≠ 0 → (tag' k).1 ≠ 0) ∧ WI w0 K Z none { s with tag := tag', N1 := s.N1 + 1, vs1 := fun i => if i = s.N1 then V else s.vs1 i, ws1 := fun i => if i = s.N1 then V2 else s.ws1 i, L1 := fun i => if i = s.N1 then l else s.L1 i, pf1 := pf', cf1 := cf', pw1 := pw', cw1 := cw' } w' := by
  obtain ⟨tag', htag⟩ : ∃ tag' : Nat → Tg, tag' = fun k => if k < w.heap.size then (if (s.tag k).1 = 7 then (3, s.N1) else s.tag k) else if k < m1 then (0, 1) else if k < m2 then (5, 0) else (0, 2) := ⟨_, rfl⟩
  have ha : ∀ k, k < w.heap.size → (s.tag k).1 ≠ 7 → tag' k = s.tag k := fun k hk h7 => by rw [htag]; simp only; rw [if_pos hk, if_neg h7]
  have h7 : ∀ k, k < w.heap.size → (s.tag k).1 = 7 → tag' k = (3, s.N1) := fun k hk h7 => by rw [htag]; simp only; rw [if_pos hk, if_pos h7]
  have hA := h.ret ha
  have hQ : ∀ k, (k = Z ∨ (Value.slice s.pf1 s.N1 s.cf1).ownBlock = some k ∨ (Value.slice s.pw1 s.N1 s.cw1).ownBlock = some k) → k < w.heap.size → tag' k = (0, 0) ∨ tag' k = (0, 1) ∨ tag' k = (0, 2) := by
    rintro k (rfl | q | q) _
    · exact .inl hA.tz
    · exact .inr (.inl (hA.b1.tf k q))
    · exact .inr (.inr (hA.u1.tw k q))
  have ne : ∀ {a b : Nat}, ((a, b) : Tg) ≠ (0, 0) → ((a, b) : Tg) ≠ (0, 1) → ((a, b) : Tg) ≠ (0, 2) → ∀ k, (k = Z ∨ (Value.slice s.pf1 s.N1 s.cf1).ownBlock = some k ∨ (Value.slice s.pw1 s.N1 s.cw1).ownBlock = some k) → k < w.heap.size → tag' k ≠ (a, b) := by
    intro a b n0 n1 n2 k hk hl e
    rcases hQ k hk hl with q | q | q <;> rw [q] at e
    · exact n0 e.symm
    · exact n1 e.symm
    · exact n2 e.symm
  have npv : ∀ {κ : Nat}, ∀ k, (k = Z ∨ (Value.slice s.pf1 s.N1 s.cf1).ownBlock = some k ∨ (Value.slice s.pw1 s.N1 s.cw1).ownBlock = some k) → k < w.heap.size → ¬ Pv κ 0 (tag' k) := by
    intro κ k hk hl e
    rcases e with e | ⟨_, e⟩
    · exact ne (by decide) (by decide) (by decide) k hk hl e
    · omega
  have hVk : ∀ k, V.ownBlock = some k → k < w.heap.size := fun k hk => owns_blk hV k hk
  refine ⟨tag', fun k hk h0 => ?_, hb, hA.tz, owns_only hA.rl ho (fun k hk q => ne (by decide) (by decide) (by decide) k q (owns_blk hA.rl k hk) (hA.tl k hk)), hA.tl,
    fun i x hx hi => (hA.so i x hx hi).only ho (fun k q l => ⟨ne (tg_ne (by decide)) (tg_ne (by decide)) (tg_ne (by decide)) k q l, ne (tg_ne (by decide)) (tg_ne (by decide)) (tg_ne (by decide)) k q l⟩),
    ?b, ?u, hA.d1.only ho (fun k q l => ⟨ne (by decide) (by decide) (by decide) k q l, npv k q l⟩),
    hA.b2.only ho (fun k q l => ⟨ne (by decide) (by decide) (by decide) k q l, fun i _ => ne (tg_ne (by decide)) (tg_ne (by decide)) (tg_ne (by decide)) k q l⟩), hA.u2.only ho (fun k q l => ⟨ne (by decide) (by decide) (by decide) k q l, ne (by decide) (by decide) (by decide) k q l⟩), hA.d2.only ho (fun k q l => ⟨ne (by decide) (by decide) (by decide) k q l, npv k q l⟩),
    hA.e1, hA.e2, by simp only; omega, hA.n2, hA.ns,
    owns_only hA.rh ho (fun k hk q => ne (by decide) (by decide) (by decide) k q (owns_blk hA.rh k hk) (hA.th k hk)), hA.th,
    hA.old.trans ⟨ho.os, ho.tape, ho.output, ho.size, fun k hk => ho.block k (Nat.lt_of_lt_of_le hk hA.old.size) (fun q => ne (by decide) (by decide) (by decide) k q (Nat.lt_of_lt_of_le hk hA.old.size) (hA.told k hk))⟩, hA.told⟩
  · by_cases q7 : (s.tag k).1 = 7
    · rw [h7 k hk q7]; simp
    · rw [ha k hk q7]; exact h0
  case b =>
    have o1 := hA.b1
    refine ⟨by simp only; rw [range_snoc]; exact rf, fun k hk => ?_, fun i h1 h2 => ?_, fun i h1 h2 k hk => ?_, fun i hi => ?_⟩
    · rcases hf k hk with q | ⟨q1, q2⟩
      · exact o1.tf k q
      · show tag' k = _
        rw [htag]
        simp only
        rw [if_neg (by omega), if_pos q2]
    · simp only
      by_cases e : i = s.N1
      · subst e
        simp only [ite_true]
        exact owns_only hV ho (fun k hk q => ne (tg_ne (by decide)) (tg_ne (by decide)) (tg_ne (by decide)) k q (hVk k hk) (h7 k (hVk k hk) (hVt k hk)))
      · simp only [if_neg e]
        have h2' : i < s.N1 := by simp only at h2; omega
        exact owns_only (o1.fl i h1 h2') ho (fun k hk q => ne (tg_ne (by decide)) (tg_ne (by decide)) (tg_ne (by decide)) k q (owns_blk (o1.fl i h1 h2') k hk) (o1.ft i h1 h2' k hk))
    · simp only at hk ⊢
      by_cases e : i = s.N1
      · subst e
        rw [if_pos rfl] at hk
        exact h7 k (hVk k hk) (hVt k hk)
      · rw [if_neg e] at hk
        have h2' : i < s.N1 := by simp only at h2; omega
        exact o1.ft i h1 h2' k hk
    · simp only
      by_cases e : i = s.N1
      · rw [if_pos e]; exact hl
      · rw [if_neg e]
        exact o1.sm i (show i < s.N1 by simp only at hi; omega)
  case u =>
    refine ⟨by simp only; rw [range_snoc]; exact rw_, fun k hk => ?_, fun i hi => ?_⟩
    · rcases hw k hk with q | q
      · exact hA.u1.tw k q
      · show tag' k = _
        rw [htag]
        simp only
        rw [if_neg (by omega), if_neg (by omega), if_neg (by omega)]
    · simp only
      by_cases e : i = s.N1
      · subst e
        simp only [ite_true]
        obtain ⟨p2, c2, e1, e2⟩ := h2
        refine ⟨p2, c2, e1, fun hn => ?_⟩
        obtain ⟨g, f1, f2, f3, f4, f5⟩ := e2 hn
        refine ⟨g, f1, f4, ?_, f5⟩
        rw [htag]
        simp only
        rw [if_neg (by omega), if_neg (by omega), if_pos f3]
      · simp only [if_neg e]
        obtain ⟨p2, c2, e1, e2⟩ := hA.u1.wl i (show i < s.N1 by simp only at hi; omega)
        refine ⟨p2, c2, e1, fun hn => ?_⟩
        obtain ⟨g, f1, f2, f3, f4⟩ := e2 hn
        have k1 := ho.block g f2 (fun q => ne (by decide) (by decide) (by decide) g q f2 f3)
        exact ⟨g, f1, Nat.lt_of_lt_of_le f2 ho.size, f3, fun j u hu => (World.cell?_of_block k1).trans (f4 j u hu)⟩
theorem WI.add2 (h : WI w0 K Z none s w) {V V2 : Value} {l : List Wr} {m1 m2 : Nat} {pf' pw' : Option Addr} {cf' cw' : Nat}
    (hV : w.ownsRow 0 69 2 V l.length (cellsW l)) (hVt : ∀ k, V.ownBlock = some k → (s.tag k).1 = 7) (hl : l.length ≤ 100000) (hroom : s.f2 + s.N2 + 1 ≤ 2 * K)
    (ho : Only (fun k => k = Z ∨ (Value.slice s.pf2 s.N2 s.cf2).ownBlock = some k ∨ (Value.slice s.pw2 s.N2 s.cw2).ownBlock = some k) w w')
    (hb : w'.heap[Z]? = some (.cells ({ s with N2 := s.N2 + 1, pf2 := pf', cf2 := cf', pw2 := pw', cw2 := cw' } : Ws).cs 30 (0, 0)))
    (rf : w'.ownsRow 0 43 1 (.slice pf' (s.N2 + 1) cf') (s.N2 + 1) ((List.range s.N2).map s.vs2 ++ [V]))
    (rw_ : w'.ownsRow 0 43 1 (.slice pw' (s.N2 + 1) cw') (s.N2 + 1) ((List.range s.N2).map s.ws2 ++ [V2]))
    (hf : ∀ k, (Value.slice pf' (s.N2 + 1) cf').ownBlock = some k → (Value.slice s.pf2 s.N2 s.cf2).ownBlock = some k ∨ (w.heap.size ≤ k ∧ k < m1))
    (hw : ∀ k, (Value.slice pw' (s.N2 + 1) cw').ownBlock = some k → (Value.slice s.pw2 s.N2 s.cw2).ownBlock = some k ∨ m2 ≤ k)
    (hm : w.heap.size ≤ m1) (hm2 : m1 ≤ m2)
    (h2 : ∃ p2 c2, V2 = .slice p2 l.length c2 ∧ (0 < l.length → ∃ g, p2 = some ⟨g, 0, none⟩ ∧ m1 ≤ g ∧ g < m2 ∧ g < w'.heap.size ∧ ∀ j u, (cellsW l)[j]? = some u → w'.cell? ⟨g, j, none⟩ = some u)) :
    ∃ tag', (∀ k, k < w.heap.size → (s.tag k).1 ≠ 0 → (tag' k).1 ≠ 0) ∧ WI w0 K Z none { s with tag := tag', N2 := s.N2 + 1, vs2 := fun i => if i = s.N2 then V else s.vs2 i, ws2 := fun i => if i = s.N2 then V2 else s.ws2 i, L2 := fun i => if i = s.N2 then l else s.L2 i, pf2 := pf', cf2 := cf', pw2 := pw', cw2 := cw' } w' := by
  obtain ⟨tag', htag⟩ : ∃ tag' : Nat → Tg, tag' = fun k => if k < w.heap.size then (if (s.tag k).1 = 7 then (4, s.N2) else s.tag k) else if k < m1 then (0, 4) else if k < m2 then (5, 0) else (0, 5) := ⟨_, rfl⟩
  have ha : ∀ k, k < w.heap.size → (s.tag k).1 ≠ 7 → tag' k = s.tag k := fun k hk h7 => by rw [htag]; simp only; rw [if_pos hk, if_neg h7]
  have h7 : ∀ k, k < w.heap.size → (s.tag k).1 = 7 → tag' k = (4, s.N2) := fun k hk h7 => by rw [htag]; simp only; rw [if_pos hk, if_pos h7]
  have hA := h.ret ha
  have hQ : ∀ k, (k = Z ∨ (Value.slice s.pf2 s.N2 s.cf2).ownBlock = some k ∨ (Value.slice s.pw2 s.N2 s.cw2).ownBlock = some k) → k < w.heap.size → tag' k = (0, 0) ∨ tag' k = (0, 4) ∨ tag' k = (0, 5) := by
    rintro k (rfl | q | q) _
    · exact .inl hA.tz
    · exact .inr (.inl (hA.b2.tf k q))
    · exact .inr (.inr (hA.u2.tw k q))
  have ne : ∀ {a b : Nat}, ((a, b) : Tg) ≠ (0, 0) → ((a, b) : Tg) ≠ (0, 4) → ((a, b) : Tg) ≠ (0, 5) → ∀ k, (k = Z ∨ (Value.slice s.pf2 s.N2 s.cf2).ownBlock = some k ∨ (Value.slice s.pw2 s.N2 s.cw2).ownBlock = some k) → k < w.heap.size → tag' k ≠ (a, b) := by
    intro a b n0 n1 n2 k hk hl e
    rcases hQ k hk hl with q | q | q <;> rw [q] at e
    · exact n0 e.symm
    · exact n1 e.symm
    · exact n2 e.symm
  have npv : ∀ {κ : Nat}, ∀ k, (k = Z ∨ (Value.slice s.pf2 s.N2 s.cf2).ownBlock = some k ∨ (Value.slice s.pw2 s.N2 s.cw2).ownBlock = some k) → k < w.heap.size → ¬ Pv κ 0 (tag' k) := by
    intro κ k hk hl e
    rcases e with e | ⟨_, e⟩
    · exact ne (by decide) (by decide) (by decide) k hk hl e
    · omega
  have hVk : ∀ k, V.ownBlock = some k → k < w.heap.size := fun k hk => owns_blk hV k hk
  refine ⟨tag', fun k hk h0 => ?_, hb, hA.tz, owns_only hA.rl ho (fun k hk q => ne (by decide) (by decide) (by decide) k q (owns_blk hA.rl k hk) (hA.tl k hk)), hA.tl,
    fun i x hx hi => (hA.so i x hx hi).only ho (fun k q l => ⟨ne (tg_ne (by decide)) (tg_ne (by decide)) (tg_ne (by decide)) k q l, ne (tg_ne (by decide)) (tg_ne (by decide)) (tg_ne (by decide)) k q l⟩),
    hA.b1.only ho (fun k q l => ⟨ne (by decide) (by decide) (by decide) k q l, fun i _ => ne (tg_ne (by decide)) (tg_ne (by decide)) (tg_ne (by decide)) k q l⟩), hA.u1.only ho (fun k q l => ⟨ne (by decide) (by decide) (by decide) k q l, ne (by decide) (by decide) (by decide) k q l⟩), hA.d1.only ho (fun k q l => ⟨ne (by decide) (by decide) (by decide) k q l, npv k q l⟩),
    ?b, ?u, hA.d2.only ho (fun k q l => ⟨ne (by decide) (by decide) (by decide) k q l, npv k q l⟩),
    hA.e1, hA.e2, hA.n1, by simp only; omega, hA.ns,
    owns_only hA.rh ho (fun k hk q => ne (by decide) (by decide) (by decide) k q (owns_blk hA.rh k hk) (hA.th k hk)), hA.th,
    hA.old.trans ⟨ho.os, ho.tape, ho.output, ho.size, fun k hk => ho.block k (Nat.lt_of_lt_of_le hk hA.old.size) (fun q => ne (by decide) (by decide) (by decide) k q (Nat.lt_of_lt_of_le hk hA.old.size) (hA.told k hk))⟩, hA.told⟩
  · by_cases q7 : (s.tag k).1 = 7
    · rw [h7 k hk q7]; simp
    · rw [ha k hk q7]; exact h0
  case b =>
    have o1 := hA.b2
    refine ⟨by simp only; rw [range_snoc]; exact rf, fun k hk => ?_, fun i h1 h2 => ?_, fun i h1 h2 k hk => ?_, fun i hi => ?_⟩
    · rcases hf k hk with q | ⟨q1, q2⟩
      · exact o1.tf k q
      · show tag' k = _
        rw [htag]
        simp only
        rw [if_neg (by omega), if_pos q2]
    · simp only
      by_cases e : i = s.N2
      · subst e
        simp only [ite_true]
        exact owns_only hV ho (fun k hk q => ne (tg_ne (by decide)) (tg_ne (by decide)) (tg_ne (by decide)) k q (hVk k hk) (h7 k (hVk k hk) (hVt k hk)))
      · simp only [if_neg e]
        have h2' : i < s.N2 := by simp only at h2; omega
        exact owns_only (o1.fl i h1 h2') ho (fun k hk q => ne (tg_ne (by decide)) (tg_ne (by decide)) (tg_ne (by decide)) k q (owns_blk (o1.fl i h1 h2') k hk) (o1.ft i h1 h2' k hk))
    · simp only at hk ⊢
      by_cases e : i = s.N2
      · subst e
        rw [if_pos rfl] at hk
        exact h7 k (hVk k hk) (hVt k hk)
      · rw [if_neg e] at hk
        have h2' : i < s.N2 := by simp only at h2; omega
        exact o1.ft i h1 h2' k hk
    · simp only
      by_cases e : i = s.N2
      · rw [if_pos e]; exact hl
      · rw [if_neg e]
        exact o1.sm i (show i < s.N2 by simp only at hi; omega)
  case u =>
    refine ⟨by simp only; rw [range_snoc]; exact rw_, fun k hk => ?_, fun i hi => ?_⟩
    · rcases hw k hk with q | q
      · exact hA.u2.tw k q
      · show tag' k = _
        rw [htag]
        simp only
        rw [if_neg (by omega), if_neg (by omega), if_neg (by omega)]
    · simp only
      by_cases e : i = s.N2
      · subst e
        simp only [ite_true]
        obtain ⟨p2, c2, e1, e2⟩ := h2
        refine ⟨p2, c2, e1, fun hn => ?_⟩
        obtain ⟨g, f1, f2, f3, f4, f5⟩ := e2 hn
        refine ⟨g, f1, f4, ?_, f5⟩
        rw [htag]
        simp only
        rw [if_neg (by omega), if_neg (by omega), if_pos f3]
      · simp only [if_neg e]
        obtain ⟨p2, c2, e1, e2⟩ := hA.u2.wl i (show i < s.N2 by simp only at hi; omega)
        refine ⟨p2, c2, e1, fun hn => ?_⟩
        obtain ⟨g, f1, f2, f3, f4⟩ := e2 hn
        have k1 := ho.block g f2 (fun q => ne (by decide) (by decide) (by decide) g q f2 f3)
        exact ⟨g, f1, Nat.lt_of_lt_of_le f2 ho.size, f3, fun j u hu => (World.cell?_of_block k1).trans (f4 j u hu)⟩
end
end Go.Proofs.Ytpelmacblglhoaa
