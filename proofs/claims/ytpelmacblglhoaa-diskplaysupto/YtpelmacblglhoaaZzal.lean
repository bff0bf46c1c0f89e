import Derived.Test.YtpelmacblglhoaaZzai
import Derived.Test.YtpelmacblglhoaaZzaj
import Derived.Test.YtpelmacblglhoaaZzak
namespace Go.Proofs.Ytpelmacblglhoaa
open Go.RowKit
set_option maxHeartbeats 4000000
set_option maxRecDepth 8000
/-- The first k writes are copied. -/
def halfW (l : List Wr) (k : Nat) : List Value := cellsW (l.take k ++ List.replicate (l.length - k) (0, []))
theorem halfW_set (l : List Wr) (k : Nat) (hk : k < l.length) : ((halfW l k).set (k * 2) (I (l.getD k (0, [])).1)).set (k * 2 + 1) (S (l.getD k (0, [])).2) = halfW l (k + 1) := by
  unfold halfW
  rw [cellsW_set _ k (l.getD k (0, [])) (by simp; omega)]
  congr 1
  have e : l.length - k = (l.length - (k + 1)) + 1 := by omega
  have hlen : (l.take k).length = k := by simp; omega
  have e2 : l.getD k (0, []) = l[k] := by simp [hk]
  rw [List.set_append_right _ _ (by omega), hlen, Nat.sub_self, e, List.replicate_succ, List.set_cons_zero, List.take_succ_eq_append_getElem hk, List.append_assoc, e2]
  rfl
theorem halfW_all (l : List Wr) : halfW l l.length = cellsW l := by simp [halfW]
theorem halfW_at (l : List Wr) (k : Nat) (hk : k < l.length) : (halfW l k)[k * 2]? = some (I 0) ∧ (halfW l k)[k * 2 + 1]? = some (S []) := by
  have h := cellsW_at (l.take k ++ List.replicate (l.length - k) (0, [])) k (by simp; omega)
  have hlen : (l.take k).length = k := by simp; omega
  have e : (l.take k ++ List.replicate (l.length - k) ((0, []) : Wr)).getD k (0, []) = (0, []) := by
    rw [List.getD_eq_getElem?_getD, List.getElem?_append_right (by omega), hlen, Nat.sub_self, List.getElem?_replicate, if_pos (by omega)]
    rfl
  rw [e] at h
  exact h
theorem made69 (m : Nat) : (madeCells (Value.agg #[.int .i64 0, .string ⟨#[]⟩]).cells (m * 2)).toList = cellsW (List.replicate m (0, [])) := by
  have hz : (Value.agg #[Value.int .i64 0, Value.string ⟨#[]⟩]).cells = #[Value.int .i64 0, Value.string ⟨#[]⟩] := rfl
  rw [hz]
  apply List.ext_getElem?
  intro i
  by_cases hi : i < m * 2
  · have h := cellsW_at (List.replicate m (0, [])) (i / 2) (by simp; omega)
    have e : (List.replicate m ((0, []) : Wr)).getD (i / 2) (0, []) = (0, []) := by
      rw [List.getD_eq_getElem?_getD, List.getElem?_replicate]
      split <;> rfl
    rw [e] at h
    unfold madeCells
    rcases Nat.mod_two_eq_zero_or_one i with q | q
    · have h1 := h.1
      rw [show i / 2 * 2 = i by omega] at h1
      rw [h1]
      simp [hi, q]
    · have h1 := h.2
      rw [show i / 2 * 2 + 1 = i by omega] at h1
      rw [h1]
      simp [hi, q]
  · rw [List.getElem?_eq_none (by unfold madeCells; simp; omega), List.getElem?_eq_none (by rw [cellsW_len]; simp; omega)]
theorem list_facts {W0 W w2 : World} {cs0 : Array Value} {g n cap : Nat} {k : Nat} {xs : List Value} (h : W0.ownsRow 0 69 2 (.slice (some ⟨g, 0, none⟩) n cap) n xs) (hx : xs[k * 2]? = some (I 0) ∧ xs[k * 2 + 1]? = some (S [])) (b : Below W.heap.size W w2) (e : W.heap = (W0.alloc (.cells cs0 69)).heap) (e1 : W.os = W0.os) (e2 : W.tape = W0.tape) (e3 : W.output = W0.output) :
    w2.cell? ⟨g, k * 2, none⟩ = some (I 0) ∧ w2.cell? ⟨g, k * 2 + 1, none⟩ = some (S []) ∧ w2.frozen? ⟨g, k * 2, none⟩ = false ∧ w2.frozen? ⟨g, k * 2 + 1, none⟩ = false ∧ (∀ j, w2.cell? ⟨W0.heap.size, j, none⟩ = cs0[j]?) ∧ (w2.ownsRow 0 69 2 (.slice (some ⟨g, 0, none⟩) n cap) n xs ∧ Below W0.heap.size W0 w2) := by
  have b0 : Below W0.heap.size W0 W := ⟨e1, e2, e3, by rw [e]; simp, fun k hk => by rw [e]; exact heap_alloc_old _ _ hk⟩
  have b1 := b0.trans (b.mono b0.size)
  have h2 := owns_below h b1
  obtain ⟨cs, q⟩ := owns_lt h2 g rfl
  have hb : w2.heap[W0.heap.size]? = some (.cells cs0 69 (0, 0)) := by
    rw [b.block _ (by rw [e]; simp), e]
    exact heap_alloc_new _ _
  exact ⟨owns_cell h2 _ _ hx.1, owns_cell h2 _ _ hx.2, frz q _, frz q _, fun j => cell_of_row w2 _ j _ 69 (0, 0) hb, h2, b1⟩
theorem list_step {w W0 w2 : World} {n k : Nat} {l : List Wr} {x1 : Nat} {x2 : Bs} (hb : Below w.heap.size w W0) (h : w2.ownsRow 0 69 2 (.slice (some ⟨w.heap.size, 0, none⟩) n n) n (halfW l k) ∧ Below W0.heap.size W0 w2) (hs : ((halfW l k).set (k * 2) (I x1)).set (k * 2 + 1) (S x2) = halfW l (k + 1)) :
    ((w2.setCell ⟨w.heap.size, k * 2, none⟩ (I x1)).setCell ⟨w.heap.size, k * 2 + 1, none⟩ (S x2)).ownsRow 0 69 2 (.slice (some ⟨w.heap.size, 0, none⟩) n n) n (halfW l (k + 1)) ∧ Below w.heap.size w ((w2.setCell ⟨w.heap.size, k * 2, none⟩ (I x1)).setCell ⟨w.heap.size, k * 2 + 1, none⟩ (S x2)) := by
  have o := owns_set (owns_set h.1 (k * 2) (I x1)) (k * 2 + 1) (S x2)
  rw [hs] at o
  exact ⟨o, ((hb.trans (h.2.mono hb.size)).setCell (p := ⟨w.heap.size, k * 2, none⟩) (Nat.le_refl _) _).setCell (p := ⟨w.heap.size, k * 2 + 1, none⟩) (Nat.le_refl _) _⟩
theorem list_any {D : Nat} {d : Ds} {vw vl : Value} {w : World} (h : DAt D d vw vl w) (ho : Ok d) :
    Calls Try.prog 42 #[ptr D] w fun e w' => ∃ V, e = .returned V ∧ w'.ownsRow 0 69 2 V d.ws.length (cellsW d.ws) ∧ (∀ k, V.ownBlock = some k → w.heap.size ≤ k) ∧ Below w.heap.size w w' := by
  obtain ⟨c0, c1, c2, c3, c4⟩ := h.c
  have hl := h.lt
  obtain ⟨p, cap, rfl, hp⟩ := Wls.of h.ws
  have HP := hide hp
  have hn := ho.few
  have HL := hide (fun x hx => (ho.lt x hx).2)
  have HD := hide h
  clear h hp ho
  go_enter Try.func42, Try.ntmps42
  go_wp2_with (first | (refine make_own 43 69 _ 2 24 Try.underlying43 info69 rfl (.tmp 10) (.tmp 10) rfl _ _ d.ws.length rfl rfl rfl rfl (by omega) (by omega) ?_; intro w1 ho1 b1 l1; rw [made69] at ho1; have HO1 := hide ho1; have HB1 := hide b1; have cc := ((unhide HD).below b1).c.1; clear ho1 b1) | fail)
  go_loopw [17] (fun i wr => ∃ k : Nat, k ≤ d.ws.length ∧ i = .int .i64 k ∧ wr.ownsRow 0 69 2 (.slice (some ⟨w.heap.size, 0, none⟩) d.ws.length d.ws.length) d.ws.length (halfW d.ws k) ∧ Below w.heap.size w wr) (fun i _ => d.ws.length - (Go.RowKit.intOf i).toNat)
  case atStart => exact ⟨0, by omega, rfl, by simpa [halfW] using unhide HO1, unhide HB1⟩
  case round =>
    obtain ⟨k, hk, rfl, ho, hb⟩ := hrel
    have HO := hide ho
    have HB := hide hb
    by_cases hlt : k < d.ws.length
    · obtain ⟨g, o, rfl, hpl, hc0, hc1⟩ := ((unhide HP).below hb).at hlt
      have hlt' : (k : Int) < (d.ws.length : Int) := by omega
      have HS := hide (halfW_set d.ws k hlt)
      have hlen := unhide HL _ (mem_getD (z := (0, [])) hlt)
      obtain ⟨x, hx⟩ : ∃ x, x = d.ws.getD k (0, []) := ⟨_, rfl⟩
      rw [← hx] at hc0 hc1 HS hlen
      obtain ⟨x1, x2⟩ := x
      simp only at hc0 hc1 HS hlen
      clear ho hb hx
      have hz0 := cell_of_row (wr.alloc (.cells #[I x1, S x2] 69)) wr.heap.size 0 _ 69 (0, 0) (heap_alloc_new _ _)
      have hz1 := cell_of_row (wr.alloc (.cells #[I x1, S x2] 69)) wr.heap.size 1 _ 69 (0, 0) (heap_alloc_new _ _)
      have H1 := hide (fun (W : World) => clone_any x2 W (by omega))
      go_wp2
      go_region_with (refine (unhide H1 _).mono ?_; rintro e w2 ⟨rfl, b2⟩; obtain ⟨y0, y1, y2, y3, y5, y4⟩ := list_facts (cs0 := #[I x1, S x2]) (unhide HO) (halfW_at d.ws k hlt) b2 rfl rfl rfl rfl; have y6 := y5 0; have y7 := y5 1; simp at y6 y7; have HY := hide y4; clear b2 y4 y5)
      all_goals go_wp2
      all_goals go_round
      all_goals first
        | (simp [Go.RowKit.intOf]; omega)
        | exact ⟨k + 1, by omega, by simp, list_step (unhide HB) (unhide HY) (unhide HS)⟩
    · have hlt' : ¬ (k : Int) < (d.ws.length : Int) := by omega
      obtain rfl : k = d.ws.length := by omega
      clear ho hb
      go_wp2
      go_ret
      refine ⟨_, rfl, ?_, ?_, unhide HB⟩
      · have := unhide HO
        rwa [halfW_all] at this
      · intro k hk
        cases hk
        exact Nat.le_refl _
theorem pending_any {D : Nat} {d : Ds} {vw vl : Value} {w : World} (h : DAt D d vw vl w) (ho : Ok d) :
    Calls Try.prog 14 #[ptr D] w fun e w' => ∃ V, e = .returned V ∧ w'.ownsRow 0 69 2 V d.ws.length (cellsW d.ws) ∧ (∀ k, V.ownBlock = some k → w.heap.size ≤ k) ∧ Below w.heap.size w w' := by
  have H := hide (list_any h ho)
  have hl := h.lt
  clear h ho
  go_enter Try.func14, Try.ntmps14
  go_wp2_with fail
  refine (unhide H).mono ?_
  rintro e w1 ⟨V, rfl, q⟩
  have HQ := hide q
  clear q
  go_wp2
  go_ret
  exact ⟨V, rfl, unhide HQ⟩
end Go.Proofs.Ytpelmacblglhoaa
namespace Go.Proofs.Ytpelmacblglhoaa
open Go.RowKit
set_option maxHeartbeats 4000000
set_option maxRecDepth 8000
/-- What lasts behind the first k pending writes of a crash. -/
def crs (last : List Bs) (ws : List Wr) (st : St) : Nat → List Bs
  | 0 => last
  | k + 1 => let l := crs last ws st k; let x := ws.getD k (0, []); l.set x.1 (tornv (l.getD x.1 []) x.2 ((st.getD k none).getD 0))
theorem tornv_len (a b : Bs) (s : Nat) (h1 : a.length = 512) (h2 : b.length = 512) : (tornv a b s).length = 512 := by
  have := tornK_len a b s 8 h1 h2 (by omega)
  exact this
theorem crs_len (last : List Bs) (ws : List Wr) (st : St) (k : Nat) : (crs last ws st k).length = last.length := by
  induction k with
  | zero => rfl
  | succ k ih => simp [crs, ih]
theorem set_sz {l : List Bs} {i : Nat} {x : Bs} (h : ∀ y ∈ l, y.length = 512) (hx : x.length = 512) : ∀ y ∈ l.set i x, y.length = 512 := by
  intro y hy
  rcases List.mem_or_eq_of_mem_set hy with q | q
  · exact h y q
  · rw [q]; exact hx
theorem crs_sz {last : List Bs} {ws : List Wr} (st : St) (h : ∀ y ∈ last, y.length = 512) (hw : ∀ x ∈ ws, x.1 < last.length ∧ x.2.length = 512) (k : Nat) (hk : k ≤ ws.length) : ∀ y ∈ crs last ws st k, y.length = 512 := by
  induction k with
  | zero => exact h
  | succ k ih =>
    have hx := hw _ (mem_getD (z := (0, [])) (show k < ws.length by omega))
    refine set_sz (ih (by omega)) (tornv_len _ _ _ (ih (by omega) _ (mem_getD ?_)) hx.2)
    rw [crs_len]
    exact hx.1
/-- Between two writes of a crash. -/
structure Crs (w : World) (D : Nat) (d : Ds) (vl vw : Value) (g1 : Nat) (st : St) (k : Nat) (W : World) : Prop where
  dat : DAt D { d with ws := [], last := crs d.last d.ws st k } (.slice none 0 0) vl W
  ws : W.ownsRow 0 69 2 vw d.ws.length (cellsW d.ws)
  ss : W.ownsRow 0 3 1 (.slice (some ⟨g1, 0, none⟩) d.ws.length d.ws.length) d.ws.length (cellsN st)
  onl : Only (fun k => k = D ∨ vl.ownBlock = some k) w W
/-- Another block of texts than the others. -/
theorem Crs.step {w W W' : World} {D : Nat} {d : Ds} {vl vw : Value} {g1 : Nat} {st : St} {k g n cap : Nat} (h : Crs w D d vl vw g1 st k W) (b : Below W.heap.size W W') (hv : vl = .slice (some ⟨g, 0, none⟩) n cap) :
    Crs w D d vl vw g1 st (k + 1) (W'.setCell ⟨g, (d.ws.getD k (0, [])).1, none⟩ (S (tornv ((crs d.last d.ws st k).getD (d.ws.getD k (0, [])).1 []) (d.ws.getD k (0, [])).2 ((st.getD k none).getD 0)))) := by
  subst hv
  have hd := h.dat.below b
  have hw := owns_below h.ws b
  have hs := owns_below h.ss b
  have hls := hd.ls
  have hlen : (({ d with ws := [], last := crs d.last d.ws st k } : Ds).last).length = n := by
    obtain ⟨p, c, e⟩ := owns_form hls
    cases e
    rfl
  have oth : ∀ {t a m : Nat} {v : Value} {xs : List Value}, W'.ownsRow 0 t a v m xs → t ≠ 9 → ∀ k, v.ownBlock = some k → ¬ k = g := by
    intro t a m v xs hv ht k hk q
    obtain ⟨c1, q1⟩ := owns_lt hv k hk
    obtain ⟨c2, q2⟩ := owns_lt hls g rfl
    rw [q, q2] at q1
    cases q1
    exact ht rfl
  generalize hi : (d.ws.getD k (0, [])).1 = i
  generalize hx : tornv ((crs d.last d.ws st k).getD i []) (d.ws.getD k (0, [])).2 ((st.getD k none).getD 0) = x
  have e : crs d.last d.ws st (k + 1) = (crs d.last d.ws st k).set i x := by
    show List.set _ _ _ = _
    rw [hi, hx]
  have O := Only.setCell W' ⟨g, i, none⟩ (S x)
  refine ⟨⟨?_, owns_nil _ _ _, ?_⟩, owns_only hw O (oth hw (by decide)), owns_only hs O (oth hs (by decide)), ?_⟩
  · rw [O.block D hd.lt (fun q => hd.nl g rfl q.symm)]
    exact hd.blk
  · show World.ownsRow _ 0 9 1 _ (crs d.last d.ws st (k + 1)).length ((crs d.last d.ws st (k + 1)).map S)
    rw [e, List.length_set, List.map_set]
    have e2 : (crs d.last d.ws st k).length = n := hlen
    rw [e2]
    have h3 := hls
    rw [hlen] at h3
    exact owns_set h3 i (S x)
  · exact (h.onl.trans (Only.of_below (P := fun _ => False) b) (fun _ _ q => q.elim)).put ⟨g, i, none⟩ (S x) (Or.inl (Or.inr rfl))
end Go.Proofs.Ytpelmacblglhoaa
