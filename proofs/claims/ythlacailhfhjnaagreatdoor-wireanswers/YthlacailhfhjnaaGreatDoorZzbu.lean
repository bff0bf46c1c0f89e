import Derived.Test.YthlacailhfhjnaaGreatDoorWhk
import Derived.Test.YthlacailhfhjnaaGreatDoorWcq
import Derived.BigRegion
import Derived.Test.YthlacailhfhjnaaGreatDoorZzat
import Derived.Test.YthlacailhfhjnaaGreatDoorZzaz
namespace Go.Proofs.YthlacailhfhjnaaGreatDoor
open Go.RowKit Go.Lib
theorem sc_err {op : Bs → Option Fst} {p : Ps} {s : Bs} {e : Nat} (h : sc op p s = some (.error e)) : e ≠ 0 := by
  induction s generalizing p with
  | nil => cases h
  | cons b s ih =>
    simp only [sc] at h
    split at h
    · rename_i q
      simp only [Option.some.injEq, Except.error.injEq] at h
      rw [← h]
      exact q
    · split at h
      · cases h
      · exact ih h
theorem sc_rd {op : Bs → Option Fst} {p q : Ps} {s t : Bs} (hp : p.st ≤ 3) (h : sc op p s = some (.ok (q, t))) : q.rd + t.length = p.rd + s.length := by
  induction s generalizing p with
  | nil => cases h
  | cons b s ih =>
    simp only [sc] at h
    split at h
    · cases h
    · rename_i h1
      have h1' : (step op p b).2 = 0 := by simpa using h1
      have h2 := step_rd op p b h1' hp
      split at h
      · simp only [Option.some.injEq, Except.ok.injEq, Prod.mk.injEq] at h
        obtain ⟨rfl, rfl⟩ := h
        simp only [List.length_cons]
        omega
      · have := ih h2.2 h
        simp only [List.length_cons]
        omega
/-- A box of an answer that is nil. -/
def az : Array Value := #[.int .i64 0, .slice none 0 0, S []]
/-- What was got, laid into a box of its own. -/
theorem box93 {W : World} {P : Nat} (cs : Array Value) (hx : W.heap[P]? = some (.cells az 26 (0, 0))) : ((W.alloc (.cells (gz 0) 93)).setRow W.heap.size cs).heap[W.heap.size]? = some (.cells cs 93 (0, 0)) ∧ ((W.alloc (.cells (gz 0) 93)).setRow W.heap.size cs).heap[P]? = some (.cells az 26 (0, 0)) ∧ Below W.heap.size W ((W.alloc (.cells (gz 0) 93)).setRow W.heap.size cs) := by
  have g := heap_alloc_new W (.cells (gz 0) 93)
  have b := (Below.refl W.heap.size W).alloc (Nat.le_refl _) (.cells (gz 0) 93)
  have b2 : Below W.heap.size W ((W.alloc (.cells (gz 0) 93)).setRow W.heap.size cs) := b.trans ⟨rfl, rfl, rfl, by simp [World.setRow], fun k hk => setRow_other _ W.heap.size k cs (by omega)⟩
  exact ⟨setRow_heap _ W.heap.size _ _ 93 _ g, (b2.block _ (lt_of_row hx)).trans hx, b2⟩
/-- Three cells of a box, one behind the other. -/
theorem st3 {W : World} {P : Nat} (x : W.heap[P]? = some (.cells az 26 (0, 0))) (v0 v1 v2 : Value) : W.cell? ⟨P, 0, none⟩ = some (.int .i64 0) ∧ W.frozen? ⟨P, 0, none⟩ = false ∧ (W.setCell ⟨P, 0, none⟩ v0).cell? ⟨P, 1, none⟩ = some (.slice none 0 0) ∧ (W.setCell ⟨P, 0, none⟩ v0).frozen? ⟨P, 1, none⟩ = false ∧ ((W.setCell ⟨P, 0, none⟩ v0).setCell ⟨P, 1, none⟩ v1).cell? ⟨P, 2, none⟩ = some (S []) ∧ ((W.setCell ⟨P, 0, none⟩ v0).setCell ⟨P, 1, none⟩ v1).frozen? ⟨P, 2, none⟩ = false ∧ (((W.setCell ⟨P, 0, none⟩ v0).setCell ⟨P, 1, none⟩ v1).setCell ⟨P, 2, none⟩ v2).heap[P]? = some (.cells #[v0, v1, v2] 26 (0, 0)) := by
  have a := heap_setCell_same W P 0 _ 26 v0 x
  have b := heap_setCell_same _ P 1 _ 26 v1 a
  have c := heap_setCell_same _ P 2 _ 26 v2 b
  exact ⟨cell_of_row W P 0 _ 26 (0, 0) x, frozen_of_heap x 0, cell_of_row _ P 1 _ 26 (0, 0) a, frozen_of_heap a 1, cell_of_row _ P 2 _ 26 (0, 0) b, frozen_of_heap b 2, c⟩
theorem fin61 {Post : Ending → World → Prop} {act : Act} {Wf : World} {P : Nat} {v0 v1 v2 x3 x4 : Value} (h2 : act.tmps.getD 2 undef = .pointer (some ⟨P, 0, none⟩)) (h3 : act.tmps.getD 3 undef = x3) (h4 : act.tmps.getD 4 undef = x4) (hd : act.defers = []) (hx : Wf.heap[P]? = some (.cells #[v0, v1, v2] 26 (0, 0))) (hpost : Post (.returned (.tuple #[.agg #[v0, v1, v2], x3, x4])) Wf) : bodyPost Tryz.prog Tryz.f61 Post Exit.ret act Wf := by
  have c0 : Wf.cell? ⟨P, 0, none⟩ = some v0 := cell_of_row Wf P 0 _ 26 (0, 0) hx
  have c1 : Wf.cell? ⟨P, 1, none⟩ = some v1 := cell_of_row Wf P 1 _ 26 (0, 0) hx
  have c2 : Wf.cell? ⟨P, 2, none⟩ = some v2 := cell_of_row Wf P 2 _ 26 (0, 0) hx
  have h2' : act.tmps[2]?.getD undef = .pointer (some ⟨P, 0, none⟩) := by rw [← h2, Array.getD_eq_getD_getElem?]
  have h3' : act.tmps[3]?.getD undef = x3 := by rw [← h3, Array.getD_eq_getD_getElem?]
  have h4' : act.tmps[4]?.getD undef = x4 := by rw [← h4, Array.getD_eq_getD_getElem?]
  refine bodyPost_ret (v := .tuple #[.agg #[v0, v1, v2], x3, x4]) (by simp [results, Tryz.results61, go_sem, h2', h3', h4', c0, c1, c2]) hd hpost
set_option maxHeartbeats 4000000 in
set_option maxRecDepth 8000 in
theorem rParseAnswer_any (s : Bs) (w : World) (hs : s.length ≤ 1000000000000) : Calls Tryz.prog 61 #[S s] w fun e w' => PaR (pa p0 s) e w w' ∧ Below w.heap.size w w' := by
  have hpa := pa_sc p0 s
  have b1 := (Below.refl w.heap.size w).alloc (Nat.le_refl _) (.cells az 26)
  have x1 := heap_alloc_new w (.cells az 26)
  have hz1 : (w.alloc (.cells az 26)).heap.size = w.heap.size + 1 := by simp
  have HRd := hide (rread_any s true (w.alloc (.cells az 26)) hs)
  have HX1 := hide (And.intro b1 x1)
  generalize pa p0 s = PA at *
  have HPA := hide hpa
  clear hpa b1 x1
  go_enter Tryz.func61, Tryz.ntmps61
  go_wp2_with fail
  change Calls Tryz.prog 50 _ (w.alloc (.cells az 26)) _
  generalize w.alloc (.cells az 26) = W1 at *
  refine (unhide HRd).mono ?_
  rintro r W2 ⟨hr, b2⟩
  obtain ⟨b1, x1⟩ := unhide HX1
  have x2 := (b2.block _ (lt_of_row x1)).trans x1
  have B2 := hide (b1.trans (b2.mono b1.size))
  have X2 := hide x2
  have HZ := hide hz1
  clear b1 x1 b2 x2 HX1 HRd hz1
  have hop : opf true = opA := rfl
  rw [hop] at hr
  cases hsc : sc opA p0 s with
  | none =>
    rw [hsc] at hr
    have hr' : r = .returned (.agg (gz 0)) := hr
    subst hr'
    have hP := unhide HPA
    rw [hsc] at hP
    simp only at hP
    subst hP
    obtain ⟨g3, x3, B3⟩ := box93 (gz 0) (unhide X2)
    have BB := hide ((unhide B2).trans (B3.mono (unhide B2).size))
    clear hr hsc hop B3
    go_upto_region 2 with (refine wp_st93 rfl (.tmp 5) (.tmp 7) rfl W2.heap.size (by rfl) [] [] 0 none 0 0 [] 0 false 0 (by rfl) (heap_alloc_new W2 (.cells (gz 0) 93)) ?_)
    change Code.wp _ _ _ _ ((W2.alloc (.cells (gz 0) 93)).setRow W2.heap.size (gz 0))
    generalize (W2.alloc (.cells (gz 0) 93)).setRow W2.heap.size (gz 0) = W3 at *
    obtain ⟨r0, r1, r2, r3, r4, r5, r6, r7⟩ := row8 g3
    have hgl := lt_of_row g3
    have hpl := lt_of_row x3
    obtain ⟨e0, f0, e1, f1, e2, f2, hF⟩ := st3 x3 (.int .i64 0) (.slice none 0 0) (.string ⟨#[]⟩)
    have HFB := hide ((((unhide BB).setCell (p := ⟨w.heap.size, 0, none⟩) (Nat.le_refl _) (.int .i64 0)).setCell (p := ⟨w.heap.size, 1, none⟩) (Nat.le_refl _) (.slice none 0 0)).setCell (p := ⟨w.heap.size, 2, none⟩) (Nat.le_refl _) (.string ⟨#[]⟩))
    have HF := hide hF
    clear hF g3 x3
    go_wp2
    exact fin61 rfl rfl rfl rfl (unhide HF) ⟨rfl, unhide HFB⟩
  | some o =>
    cases o with
    | error e =>
      rw [hsc] at hr
      have hr' : r = .returned (.agg (gz (e : Nat))) := hr
      subst hr'
      have hP := unhide HPA
      rw [hsc] at hP
      simp only at hP
      subst hP
      have he := sc_err hsc
      have hei : (((e : Nat) : Int) != 0) = true := by rw [bne_iff_ne]; omega
      obtain ⟨g3, x3, B3⟩ := box93 (gz (e : Nat)) (unhide X2)
      have BB := hide ((unhide B2).trans (B3.mono (unhide B2).size))
      clear hr hsc hop B3
      go_upto_region 2 with (refine wp_st93 rfl (.tmp 5) (.tmp 7) rfl W2.heap.size (by rfl) [] [] 0 none 0 0 [] 0 false (e : Nat) (by rfl) (heap_alloc_new W2 (.cells (gz 0) 93)) ?_)
      change Code.wp _ _ _ _ ((W2.alloc (.cells (gz 0) 93)).setRow W2.heap.size (gz (e : Nat)))
      generalize (W2.alloc (.cells (gz 0) 93)).setRow W2.heap.size (gz (e : Nat)) = W3 at *
      obtain ⟨r0, r1, r2, r3, r4, r5, r6, r7⟩ := row8 g3
      have hgl := lt_of_row g3
      have hpl := lt_of_row x3
      obtain ⟨e0, f0, e1, f1, e2, f2, hF⟩ := st3 x3 (.int .i64 0) (.slice none 0 0) (.string ⟨#[]⟩)
      have HFB := hide ((((unhide BB).setCell (p := ⟨w.heap.size, 0, none⟩) (Nat.le_refl _) (.int .i64 0)).setCell (p := ⟨w.heap.size, 1, none⟩) (Nat.le_refl _) (.slice none 0 0)).setCell (p := ⟨w.heap.size, 2, none⟩) (Nat.le_refl _) (.string ⟨#[]⟩))
      have HF := hide hF
      clear hF g3 x3
      go_wp2_with fail
      go_region
      go_wp2
      exact fin61 rfl rfl rfl rfl (unhide HF) ⟨rfl, (unhide HFB).drew⟩
    | ok qt =>
      obtain ⟨q, t⟩ := qt
      rw [hsc] at hr
      obtain ⟨hv, hr', hrow, hnew, ht⟩ := (show ∃ hv, r = .returned (.agg (gcs q.fs.m q.fs.p (q.fs.s : Nat) hv q.bd (q.rd : Nat) true 0)) ∧ W2.ownsRow 0 35 2 hv q.hs.length (cellsF q.hs) ∧ (∀ k, hv.ownBlock = some k → W1.heap.size ≤ k) ∧ t = s.drop q.rd from hr)
      subst hr'
      have hrd : q.rd ≤ s.length := by
        have := sc_rd (by decide) hsc
        have e0 : p0.rd = 0 := rfl
        omega
      have hP := unhide HPA
      rw [hsc] at hP
      simp only at hP
      have HP := hide hP
      obtain ⟨hq, hc, hvE⟩ := owns_form hrow
      subst hvE
      obtain ⟨g3, x3, B3⟩ := box93 (gcs q.fs.m q.fs.p (q.fs.s : Nat) (.slice hq q.hs.length hc) q.bd (q.rd : Nat) true 0) (unhide X2)
      have BB := hide ((unhide B2).trans (B3.mono (unhide B2).size))
      have row3 := owns_same (w' := (W2.alloc (.cells (gz 0) 93)).setRow W2.heap.size (gcs q.fs.m q.fs.p (q.fs.s : Nat) (.slice hq q.hs.length hc) q.bd (q.rd : Nat) true 0)) hrow (fun k hk => by
        obtain ⟨cs, e⟩ := owns_lt hrow k hk
        exact B3.block k (lt_of_row e))
      have HN := hide hnew
      have HTT := hide ht
      clear hr hsc hop B3 hP hrow hnew HPA ht
      go_upto_region 2 with (refine wp_st93 rfl (.tmp 5) (.tmp 7) rfl W2.heap.size (by rfl) q.fs.m q.fs.p (q.fs.s : Nat) hq q.hs.length hc q.bd (q.rd : Nat) true 0 (by rfl) (heap_alloc_new W2 (.cells (gz 0) 93)) ?_)
      change Code.wp _ _ _ _ ((W2.alloc (.cells (gz 0) 93)).setRow W2.heap.size (gcs q.fs.m q.fs.p (q.fs.s : Nat) (.slice hq q.hs.length hc) q.bd (q.rd : Nat) true 0))
      generalize (W2.alloc (.cells (gz 0) 93)).setRow W2.heap.size (gcs q.fs.m q.fs.p (q.fs.s : Nat) (.slice hq q.hs.length hc) q.bd (q.rd : Nat) true 0) = W3 at *
      obtain ⟨r0, r1, r2, r3, r4, r5, r6, r7⟩ := row8 g3
      have hgl := lt_of_row g3
      have hpl := lt_of_row x3
      obtain ⟨e0, f0, e1, f1, e2, f2, hF⟩ := st3 x3 (.int .i64 (q.fs.s : Nat)) (.slice hq q.hs.length hc) (S q.bd)
      have HFB := hide ((((unhide BB).setCell (p := ⟨w.heap.size, 0, none⟩) (Nat.le_refl _) (.int .i64 (q.fs.s : Nat))).setCell (p := ⟨w.heap.size, 1, none⟩) (Nat.le_refl _) (.slice hq q.hs.length hc)).setCell (p := ⟨w.heap.size, 2, none⟩) (Nat.le_refl _) (S q.bd))
      have HROW := hide (owns_same (w' := ((((W3.setCell ⟨w.heap.size, 0, none⟩ (.int .i64 (q.fs.s : Nat))).setCell ⟨w.heap.size, 1, none⟩ (.slice hq q.hs.length hc)).setCell ⟨w.heap.size, 2, none⟩ (S q.bd)).drew)) row3 (fun k hk => by
        have hne := own_ne x3 row3 (by decide) k hk
        exact (heap_setCell_other _ ⟨w.heap.size, 2, none⟩ k _ hne).trans ((heap_setCell_other _ ⟨w.heap.size, 1, none⟩ k _ hne).trans (heap_setCell_other _ ⟨w.heap.size, 0, none⟩ k _ hne))))
      have HF := hide hF
      have hX : (ByteArray.mk s.toArray).extract q.rd s.length = ⟨(s.drop q.rd).toArray⟩ := by rw [extract_eq, List.take_of_length_le (by simp)]
      have hle : ((q.rd : Nat) : Int) ≤ (s.length : Int) := by omega
      clear hF g3 x3 row3
      go_wp2_with fail
      go_region
      go_wp2
      refine fin61 rfl rfl rfl rfl (unhide HF) ⟨?_, (unhide HFB).drew⟩
      rw [unhide HP, unhide HTT]
      exact ⟨_, rfl, unhide HROW, fun k hk => by have := unhide HN k hk; have := unhide HZ; omega⟩
end Go.Proofs.YthlacailhfhjnaaGreatDoor
namespace Go.Proofs.YthlacailhfhjnaaGreatDoor
open Go.RowKit Go.Lib
/-- Messages, printed one behind the other. -/
def prm (m : Ms) : Bs := lay (mline m.m m.p) m.hs m.b
def prs (l : List Ms) : Bs := l.flatMap prm
theorem prs_append (a b : List Ms) : prs (a ++ b) = prs a ++ prs b := by simp [prs]
theorem prm_fd {m : Ms} (h : may m = true) (t : Bs) (l : List Ms) : fd p0 (prm m ++ t) l = fd p0 t (l ++ [m]) := by
  have hb : m.b.length ≤ 4000 := by
    unfold may at h
    simp only [Bool.and_eq_true] at h
    exact (flw_len h.2).2.2
  obtain ⟨i, c, q, e, hr, s1, s2, s3⟩ := msg_back h (by have := dec_len m.b.length (by omega); omega)
  unfold prm
  rw [e, List.append_assoc, fd_run hr]
  simp only [List.cons_append, List.nil_append, fd]
  rw [if_neg (by simp [s1]), if_pos s2, s3]
theorem prs_fd {ms : List Ms} (h : ∀ m ∈ ms, may m = true) (t : Bs) (l : List Ms) : fd p0 (prs ms ++ t) l = fd p0 t (l ++ ms) := by
  induction ms generalizing l with
  | nil => simp [prs]
  | cons m ms ih =>
    have e : prs (m :: ms) ++ t = prm m ++ (prs ms ++ t) := by simp [prs]
    rw [e, prm_fd (h m List.mem_cons_self), ih (fun x hx => h x (List.mem_cons_of_mem _ hx))]
    simp
theorem fd_pre (p : Ps) (s t : Bs) (l : List Ms) (h : (fd p (s ++ t) l).2.2 = 0) : (fd p s l).2.2 = 0 := by
  rw [fd_append] at h
  split at h
  · exact h
  · rename_i q; simpa using q
/-- No beginning of what was printed is wrong. -/
theorem prs_ok {ms : List Ms} (h : ∀ m ∈ ms, may m = true) (t : Bs) (k : Nat) (hk : k ≤ (prs ms).length) : (fd p0 ((prs ms ++ t).take k) []).2.2 = 0 := by
  rw [List.take_append_of_le_length hk]
  refine fd_pre p0 _ ((prs ms).drop k) [] ?_
  rw [List.take_append_drop]
  have := prs_fd h [] []
  rw [List.append_nil] at this
  rw [this]
  rfl
theorem prs_first {ms : List Ms} (h : ∀ m ∈ ms, may m = true) (t : Bs) : ∃ l, (fd p0 (prs ms ++ t) []).2.1 = ms ++ l := by
  rw [prs_fd h, fd_acc]
  exact ⟨_, rfl⟩
theorem fd_err (p : Ps) (s : Bs) (l : List Ms) (h : (fd p s l).2.2 ≠ 0) : (fd p s l).1 = pov := by
  induction s generalizing p l with
  | nil => simp [fd] at h
  | cons b s ih =>
    simp only [fd] at h ⊢
    split
    · rename_i h1; exact step_err opM p b h1
    · rename_i h1
      rw [if_neg h1] at h
      split
      · rename_i h2; rw [if_pos h2] at h; exact ih _ _ h
      · rename_i h2; rw [if_neg h2] at h; exact ih _ _ h
/-- What is kept to all along: the parser, and the messages that were told. -/
theorem fd_ok (p : Ps) (s : Bs) (l : List Ms) (hp : OkP p) (h : (fd p s l).2.2 = 0) : OkP (fd p s l).1 := by
  induction s generalizing p l with
  | nil => exact hp
  | cons b s ih =>
    simp only [fd] at h ⊢
    split
    · rename_i h1; rw [if_pos h1] at h; exact absurd h h1
    · rename_i h1
      rw [if_neg h1] at h
      have h1' : (step opM p b).2 = 0 := by simpa using h1
      split
      · rename_i h2; rw [if_pos h2] at h; exact ih _ _ okP0 h
      · rename_i h2; rw [if_neg h2] at h; exact ih _ _ (step_ok opM p b hp h1' h2) h
theorem fd_cnt (p : Ps) (s : Bs) (l : List Ms) : (fd p s l).2.1.length ≤ l.length + s.length := by
  induction s generalizing p l with
  | nil => simp [fd]
  | cons b s ih =>
    simp only [fd, List.length_cons]
    split
    · simp
    · split
      · have := ih p0 (l ++ [(step opM p b).1.ms])
        simp at this ⊢
        omega
      · have := ih (step opM p b).1 l
        omega
theorem step_hs (op : Bs → Option Fst) (p : Ps) (b : UInt8) : (step op p b).1.hs.length ≤ p.hs.length + 1 := by
  have h0 : pov.hs.length = 0 := rfl
  unfold step
  split
  · split
    · unfold judge
      split
      · unfold jFst
        split
        · simp only [h0]; omega
        · split
          · simp
          · simp only [h0]; omega
      · split
        · unfold jEnd
          split <;> simp
        · unfold jHdr
          split
          · simp only [h0]; omega
          · split
            · unfold jLen
              split
              · simp only [h0]; omega
              · split
                · simp only [h0]; omega
                · simp
            · split
              · simp only [h0]; omega
              · simp
    · split
      · simp only [h0]; omega
      · simp
  · split <;> simp
theorem fd_hs (p : Ps) (s : Bs) (l : List Ms) (hp : OkP p) (hl : ∀ m ∈ l, m.hs.length ≤ 33) : ∀ m ∈ (fd p s l).2.1, m.hs.length ≤ 33 := by
  induction s generalizing p l with
  | nil => exact hl
  | cons b s ih =>
    simp only [fd]
    split
    · exact hl
    · rename_i h1
      have h1' : (step opM p b).2 = 0 := by simpa using h1
      split
      · refine ih _ _ okP0 ?_
        intro m hm
        rw [List.mem_append, List.mem_singleton] at hm
        rcases hm with hm | rfl
        · exact hl m hm
        · have := step_hs opM p b
          have := hp.2.2.1
          show (step opM p b).1.hs.length ≤ 33
          omega
      · rename_i h2
        exact ih _ _ (step_ok opM p b hp h1' h2) hl
theorem hs_getD {l : List Ms} (h : ∀ m ∈ l, m.hs.length ≤ 33) (j : Nat) (ms0 : Ms) (h0 : ms0.hs = []) : (l.getD j ms0).hs.length ≤ 1000000000000 := by
  by_cases hj : j < l.length
  · have e : l.getD j ms0 = l[j] := by simp [hj]
    rw [e]
    have := h _ (List.getElem_mem hj)
    omega
  · have e : l.getD j ms0 = ms0 := by simp [List.getD, show l[j]? = none from List.getElem?_eq_none (by omega)]
    rw [e, h0]
    exact Nat.zero_le _
/-- One more piece. -/
theorem cut_err (s : Bs) {a b : Nat} (hab : a ≤ b) (h : (fd p0 (s.take a) []).2.2 ≠ 0) : fd p0 (s.take b) [] = fd p0 (s.take a) [] ∧ feed (fd p0 (s.take a) []).1 ((s.take b).drop a) = (pov, [], 54) := by
  have e : s.take b = s.take a ++ (s.take b).drop a := by
    have q := List.take_append_drop a (s.take b)
    rw [List.take_take, Nat.min_eq_left hab] at q
    exact q.symm
  refine ⟨?_, ?_⟩
  · rw [e, fd_append, if_pos h]
  · rw [fd_err _ _ _ h]
    rfl
theorem cut_ok (s : Bs) {a b : Nat} (hab : a ≤ b) (h : (fd p0 (s.take a) []).2.2 = 0) : fd p0 (s.take b) [] = ((feed (fd p0 (s.take a) []).1 ((s.take b).drop a)).1, (fd p0 (s.take a) []).2.1 ++ (feed (fd p0 (s.take a) []).1 ((s.take b).drop a)).2.1, (feed (fd p0 (s.take a) []).1 ((s.take b).drop a)).2.2) := by
  have e : s.take b = s.take a ++ (s.take b).drop a := by
    have q := List.take_append_drop a (s.take b)
    rw [List.take_take, Nat.min_eq_left hab] at q
    exact q.symm
  have hok := fd_ok p0 (s.take a) [] okP0 h
  unfold feed
  rw [if_neg (by have := hok.1; omega)]
  conv => lhs; rw [e]
  rw [fd_append, if_neg (by simp [h]), fd_acc]
theorem feed_p0 (s : Bs) : feed p0 s = fd p0 s [] := rfl
end Go.Proofs.YthlacailhfhjnaaGreatDoor
