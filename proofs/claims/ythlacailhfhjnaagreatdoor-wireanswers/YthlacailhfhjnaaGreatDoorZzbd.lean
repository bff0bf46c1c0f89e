import Derived.Test.YthlacailhfhjnaaGreatDoorZzau
import Derived.Test.YthlacailhfhjnaaGreatDoorWcq
import Derived.Test.YthlacailhfhjnaaGreatDoorZzao
import Derived.Test.YthlacailhfhjnaaGreatDoorZzai
import Derived.Test.YthlacailhfhjnaaGreatDoorZzaz
namespace Go.Proofs.YthlacailhfhjnaaGreatDoor
open Go.RowKit Go.Lib
/-- The values of the fields with such a name. -/
def allv (hs : List Fl) (n : Bs) : List Bs := (hs.filter (fun f => alk f.1 n)).map (·.2)
theorem allv_next (fs : List Fl) (n : Bs) (k : Nat) (h : k < fs.length) : allv (fs.take (k + 1)) n = allv (fs.take k) n ++ (if alk (fs.getD k fl0).1 n then [(fs.getD k fl0).2] else []) := by
  have e : fs.take (k + 1) = fs.take k ++ [fs.getD k fl0] := by
    rw [List.take_succ_eq_append_getElem h]
    simp [h]
  rw [e]
  unfold allv
  rw [List.filter_append, List.map_append]
  congr 1
  cases hq : alk (fs.getD k fl0).1 n
  · simp only [List.filter_cons, hq]; rfl
  · simp only [List.filter_cons, hq]; rfl
theorem allv_len (fs : List Fl) (n : Bs) (k : Nat) : (allv (fs.take k) n).length ≤ k := by
  unfold allv
  rw [List.length_map]
  have := List.length_filter_le (fun f : Fl => alk f.1 n) (fs.take k)
  rw [List.length_take] at this
  omega
/-- Texts in a row of one's own. -/
structure Ows (w : World) (V : Value) (l : List Bs) (wr : World) : Prop where
  row : wr.ownsRow 0 9 1 V l.length (l.map S)
  new : ∀ k, V.ownBlock = some k → w.heap.size ≤ k
  bel : Below w.heap.size w wr
theorem Ows.nil (w : World) : Ows w (.slice none 0 0) [] w := ⟨⟨rfl, .inl ⟨rfl, rfl⟩⟩, (fun _ h => nomatch h), Below.refl _ _⟩
theorem Ows.below {w wr w' : World} {V : Value} {l : List Bs} (h : Ows w V l wr) (hb : Below wr.heap.size wr w') : Ows w V l w' :=
  ⟨owns_same h.row (fun j hj => by
    obtain ⟨cs, q⟩ := owns_lt h.row j hj
    exact hb.block j (lt_of_row q)), h.new, h.bel.trans (hb.mono h.bel.size)⟩
theorem wp_pushS {ops : Array Oper} {rest : List Oper} {o : Oper} {ac : Act} {Q : Exit → Act → World → Prop} {w wr : World} {V : Value} {l : List Bs} {x : Bs} (hgd : o.guard = none) (p q : Operand) (ho : o.op = .call { callee := .builtin .append, args := #[p, q], argTypes := #[36, 36] })
    (hp : ac.eval p = V) (hq : ac.eval q = .slice (some ⟨wr.heap.size, 0, none⟩) 1 1) (h : Ows w V l wr) (hs : l.length ≤ 1000000000000)
    (hn : ∀ V' w', Ows w V' (l ++ [x]) w' → wpList Tryz.prog ops Q rest (ac.put o.dst V') w') : wpList Tryz.prog ops Q (o :: rest) ac (wr.alloc (.cells #[S x] 9)) := by
  refine push_own 36 9 _ 1 16 Tryz.underlying36 info9 rfl (by decide) hgd p q ho V l.length (l.map S) hp wr h.row [S x] rfl (by intro u hu; obtain rfl := List.mem_singleton.1 hu; rfl) hq (by omega) (by omega) ?_
  intro pp cap w' r1 r2 r3
  refine hn _ w' ⟨?_, fun k hk => ?_, r2.below h.bel h.bel.size h.new⟩
  · rw [List.length_append, List.map_append]; exact r1
  · rcases r3 k hk with r | r
    · exact h.new k r
    · exact Nat.le_trans h.bel.size r
set_option maxHeartbeats 8000000 in
set_option maxRecDepth 8000 in
theorem rAll_any (a : Option Addr) (n cap : Nat) (fs : List Fl) (x : Bs) (w : World) (hp : Fls w a n fs) (hL : Lens fs) (hn : n ≤ 1000000000000) (hx : x.length ≤ 140737488351232) :
    Calls Tryz.prog 18 #[.slice a n cap, S x] w fun e w' => ∃ V, e = .returned V ∧ Ows w V (allv fs x) w' := by
  have hN := hp.1
  subst hN
  have HP := hide hp
  clear hp
  go_enter Tryz.func18, Tryz.ntmps18
  go_wp2
  go_loopw [5, 6] (fun V i wr => ∃ k : Nat, k ≤ fs.length ∧ i = .int .i64 k ∧ Ows w V (allv (fs.take k) x) wr) (fun _ i _ => fs.length - (Go.RowKit.intOf i).toNat)
  case atStart => exact ⟨0, by omega, rfl, by simpa [allv] using Ows.nil w⟩
  case round =>
    obtain ⟨k, hk, rfl, hi⟩ := hrel
    have HI := hide hi
    by_cases hlt : k < fs.length
    · obtain ⟨p, o, rfl, hpl, hc0, hc1⟩ := ((unhide HP).below hi.bel).at hlt
      have hlt' : (k : Int) < (fs.length : Int) := by omega
      have hl := hL k
      have hnx := hide (allv_next fs x k (by omega))
      have hle := allv_len fs x k
      generalize fs.getD k fl0 = F at *
      obtain ⟨fn, fv⟩ := F
      simp only at hc0 hc1 hl
      have H1 := hide (small_wide fn wr hl.1)
      have HK : Hid (alk fn x = (fn.map low == x.map low)) := hide rfl
      clear hi
      go_wp2_with fail
      refine (unhide H1).mono ?_
      rintro e w1 ⟨rfl, b1⟩
      have H2 := hide (small_wide x w1 hx)
      have HI1 := hide ((unhide HI).below b1)
      have e1 := (b1.cell (by exact hpl)).trans hc1
      clear b1 H1 hc0 hc1 HI
      go_wp2_with fail
      refine (unhide H2).mono ?_
      rintro e w2 ⟨rfl, b2⟩
      have HI2 := hide ((unhide HI1).below b2)
      have e2 := (b2.cell (by exact blk_lt e1)).trans e1
      clear b2 H2 e1 HI1
      generalize fn.map low = L1 at *
      generalize x.map low = L2 at *
      by_cases hq : (L1 == L2) = true
      · have HR := hide (show allv (fs.take (k + 1)) x = allv (fs.take k) x ++ [fv] by rw [unhide hnx, unhide HK, hq]; rfl)
        obtain rfl : L1 = L2 := by simpa using hq
        clear hnx HK hq
        go_wp2_with (first | (at_builtin; refine wp_pushS (x := fv) rfl (.tmp 22) (.tmp 28) rfl (by rfl) (by rfl) (unhide HI2) (by omega) ?_; intro V' w3 hw3) | fail)
        exact ⟨⟨k + 1, by omega, by go_num, by rw [unhide HR]; exact hw3⟩, by simp [Go.RowKit.intOf]; omega⟩
      · have hq' : (L1 == L2) = false := by simpa using hq
        have hne : ¬ L1 = L2 := by simpa using hq
        have HR := hide (show allv (fs.take (k + 1)) x = allv (fs.take k) x by rw [unhide hnx, unhide HK, hq']; simp)
        clear hnx HK hq
        go_wp2_with fail
        exact ⟨⟨k + 1, by omega, by go_num, by rw [unhide HR]; exact unhide HI2⟩, by simp [Go.RowKit.intOf]; omega⟩
    · have hd : decide ((k : Int) < (fs.length : Int)) = false := by simp; omega
      have hkn : fs.take k = fs := List.take_of_length_le (by omega)
      rw [hkn] at HI
      clear hi
      go_wp2
      go_ret
      exact ⟨_, rfl, unhide HI⟩
set_option maxHeartbeats 8000000 in
set_option maxRecDepth 8000 in
theorem all_any (a : Option Addr) (n cap : Nat) (fs : List Fl) (x : Bs) (w : World) (hp : Fls w a n fs) (hL : Lens fs) (hn : n ≤ 1000000000000) :
    Calls Tryz.prog 17 #[.slice a n cap, S x] w fun e w' => ∃ V, e = .returned V ∧ Ows w V (allv fs x) w' := by
  have hN := hp.1
  subst hN
  have HP := hide hp
  clear hp
  go_enter Tryz.func17, Tryz.ntmps17
  go_wp2
  go_loopw [5, 10] (fun V i wr => ∃ k : Nat, k ≤ fs.length ∧ i = .int .i64 k ∧ Ows w V (allv (fs.take k) x) wr) (fun _ i _ => fs.length - (Go.RowKit.intOf i).toNat)
  case atStart => exact ⟨0, by omega, rfl, by simpa [allv] using Ows.nil w⟩
  case round =>
    obtain ⟨k, hk, rfl, hi⟩ := hrel
    have HI := hide hi
    by_cases hlt : k < fs.length
    · obtain ⟨p, o, rfl, hpl, hc0, hc1⟩ := ((unhide HP).below hi.bel).at hlt
      have hlt' : (k : Int) < (fs.length : Int) := by omega
      have hl := hL k
      have hnx := hide (allv_next fs x k (by omega))
      have hle := allv_len fs x k
      generalize fs.getD k fl0 = F at *
      obtain ⟨fn, fv⟩ := F
      simp only at hc0 hc1 hl
      have b1 := (Below.refl wr.heap.size wr).alloc (Nat.le_refl _) (.cells #[S fn, S fv] 35)
      have x1 := heap_alloc_new wr (.cells #[S fn, S fv] 35)
      have H1 := hide (alike_any fn x (wr.alloc (.cells #[S fn, S fv] 35)) (by omega))
      have X1 := hide (And.intro (hi.below b1) x1)
      clear hi b1 x1
      go_wp2_with fail
      refine (unhide H1).mono ?_
      rintro e w1 ⟨rfl, q, hw⟩
      have hb1 : Below (wr.alloc (.cells #[S fn, S fv] 35)).heap.size (wr.alloc (.cells #[S fn, S fv] 35)) w1 := by rw [hw]; exact below_dN (Below.refl _ _) q
      have HI1 := hide ((unhide X1).1.below hb1)
      have x2 := (hb1.block _ (lt_of_row (unhide X1).2)).trans (unhide X1).2
      have d1 : w1.cell? ⟨wr.heap.size, 1, none⟩ = some (S fv) := cell_of_row w1 _ 1 _ 35 (0, 0) x2
      clear hw hb1 x2 X1 H1 HI
      cases hq : alk fn x
      · have HR := hide (show allv (fs.take (k + 1)) x = allv (fs.take k) x by rw [unhide hnx, hq]; simp)
        clear hnx hq
        go_wp2_with fail
        exact ⟨⟨k + 1, by omega, by go_num, by rw [unhide HR]; exact unhide HI1⟩, by simp [Go.RowKit.intOf]; omega⟩
      · have HR := hide (show allv (fs.take (k + 1)) x = allv (fs.take k) x ++ [fv] by rw [unhide hnx, hq]; rfl)
        have H2 := hide (clone_any fv w1 (by omega))
        clear hnx hq
        go_wp2_with fail
        refine (unhide H2).mono ?_
        rintro e w2 ⟨rfl, b2⟩
        have HI2 := hide ((unhide HI1).below b2)
        clear b2 H2 HI1 d1
        go_wp2_with (first | (at_builtin; refine wp_pushS (x := fv) rfl (.tmp 18) (.tmp 22) rfl (by rfl) (by rfl) (unhide HI2) (by omega) ?_; intro V' w3 hw3) | fail)
        exact ⟨⟨k + 1, by omega, by go_num, by rw [unhide HR]; exact hw3⟩, by simp [Go.RowKit.intOf]; omega⟩
    · have hd : decide ((k : Int) < (fs.length : Int)) = false := by simp; omega
      have hkn : fs.take k = fs := List.take_of_length_le (by omega)
      rw [hkn] at HI
      clear hi
      go_wp2
      go_ret
      exact ⟨_, rfl, unhide HI⟩
end Go.Proofs.YthlacailhfhjnaaGreatDoor
namespace Go.Proofs.YthlacailhfhjnaaGreatDoor
open Go.RowKit Go.Lib
theorem cellsF_at (fs : List Fl) (j : Nat) (h : j < fs.length) : (cellsF fs)[j * 2]? = some (S (fs.getD j fl0).1) ∧ (cellsF fs)[j * 2 + 1]? = some (S (fs.getD j fl0).2) := by
  induction fs generalizing j with
  | nil => simp at h
  | cons f l ih =>
    cases j with
    | zero => simp [cellsF]
    | succ j =>
      have := ih j (by simpa using h)
      have e : cellsF (f :: l) = S f.1 :: S f.2 :: cellsF l := by simp [cellsF]
      rw [e, show (j + 1) * 2 = j * 2 + 1 + 1 by omega]
      simpa using this
theorem owns_fls {w : World} {p : Option Addr} {n c : Nat} {fs : List Fl} (h : w.ownsRow 0 35 2 (.slice p n c) fs.length (cellsF fs)) (hn : n = fs.length) : Fls w p n fs := by
  refine ⟨hn, fun h0 => ?_⟩
  rcases h.2 with ⟨e, q⟩ | ⟨g, cap, cur, e1, e2, e3, e4, e5, e6, e7⟩
  · injection e with a1 a2 a3; omega
  · injection e1 with a1 a2 a3
    subst a1
    refine ⟨g, 0, rfl, fun j hj => ?_⟩
    obtain ⟨h1, h2⟩ := cellsF_at fs j (by omega)
    have hc : ∀ i u, (cellsF fs)[i]? = some u → w.cell? ⟨g, i, none⟩ = some u := by
      intro i u hi
      rw [cell_of_row w g i _ 35 (0, 0) e3]
      rw [← e7, List.getElem?_take] at hi
      split at hi
      · simpa using hi
      · cases hi
    rw [Nat.zero_add]
    exact ⟨hc _ _ h1, hc _ _ h2⟩
def ms0 : Ms := ⟨[], [], [], []⟩
/-- Messages, one behind the other in memory. -/
def Mls (w : World) (a : Option Addr) (n : Nat) (ms : List Ms) : Prop :=
  n = ms.length ∧ (0 < n → ∃ p o, a = some ⟨p, o, none⟩ ∧ ∀ j, j < n → ∃ ha hc, w.cell? ⟨p, o + j * 4, none⟩ = some (S (ms.getD j ms0).m) ∧ w.cell? ⟨p, o + j * 4 + 1, none⟩ = some (S (ms.getD j ms0).p) ∧ w.cell? ⟨p, o + j * 4 + 2, none⟩ = some (.slice ha (ms.getD j ms0).hs.length hc) ∧ w.cell? ⟨p, o + j * 4 + 3, none⟩ = some (S (ms.getD j ms0).b) ∧ Fls w ha (ms.getD j ms0).hs.length (ms.getD j ms0).hs)
theorem Mls.below {w w' : World} {a : Option Addr} {n : Nat} {ms : List Ms} (h : Mls w a n ms) (hb : Below w.heap.size w w') : Mls w' a n ms := by
  refine ⟨h.1, fun hn => ?_⟩
  obtain ⟨p, o, e, hc⟩ := h.2 hn
  refine ⟨p, o, e, fun j hj => ?_⟩
  obtain ⟨ha, hcc, c0, c1, c2, c3, f⟩ := hc j hj
  have hp : p < w.heap.size := blk_lt c0
  exact ⟨ha, hcc, (hb.cell (by exact hp)).trans c0, (hb.cell (by exact hp)).trans c1, (hb.cell (by exact hp)).trans c2, (hb.cell (by exact hp)).trans c3, f.below hb⟩
theorem cellsM_at (l : List (Ms × Value)) (j : Nat) (h : j < l.length) : (cellsM l)[j * 4]? = some (S l[j].1.m) ∧ (cellsM l)[j * 4 + 1]? = some (S l[j].1.p) ∧ (cellsM l)[j * 4 + 2]? = some l[j].2 ∧ (cellsM l)[j * 4 + 3]? = some (S l[j].1.b) := by
  induction l generalizing j with
  | nil => simp at h
  | cons f l ih =>
    cases j with
    | zero => simp [cellsM]
    | succ j =>
      have := ih j (by simpa using h)
      have e : cellsM (f :: l) = S f.1.m :: S f.1.p :: f.2 :: S f.1.b :: cellsM l := by simp [cellsM]
      rw [e, show (j + 1) * 4 = j * 4 + 1 + 1 + 1 + 1 by omega]
      simpa using this
theorem MAt.mls {V : Value} {l : List (Ms × Value)} {M : Nat → Prop} {w : World} (h : MAt V l M w) : ∃ p c, V = .slice p (l.map (·.1)).length c ∧ Mls w p (l.map (·.1)).length (l.map (·.1)) := by
  rw [List.length_map]
  have hl : (l.map (·.1)).length = l.length := List.length_map _
  rcases h.row.2 with ⟨e, q⟩ | ⟨g, cap, cur, e1, e2, e3, e4, e5, e6, e7⟩
  · exact ⟨none, 0, by rw [e, q], by rw [hl], fun h0 => by omega⟩
  · refine ⟨some ⟨g, 0, none⟩, cap, e1, by rw [hl], fun _ => ⟨g, 0, rfl, fun j hj => ?_⟩⟩
    obtain ⟨h0, h1, h2, h3⟩ := cellsM_at l j hj
    have hc : ∀ i u, (cellsM l)[i]? = some u → w.cell? ⟨g, i, none⟩ = some u := by
      intro i u hi
      rw [cell_of_row w g i _ 24 (0, 0) e3]
      rw [← e7, List.getElem?_take] at hi
      split at hi
      · simpa using hi
      · cases hi
    have eg : (l.map (·.1)).getD j ms0 = l[j].1 := by simp [hj]
    rw [eg]
    have hx := h.hrow l[j] (List.getElem_mem hj)
    obtain ⟨ha, hcc, hv⟩ := owns_form hx
    rw [hv] at h2
    have hx2 := hx
    rw [hv] at hx2
    rw [Nat.zero_add]
    exact ⟨ha, hcc, hc _ _ h0, hc _ _ h1, hc _ _ h2, hc _ _ h3, owns_fls hx2 rfl⟩
set_option maxHeartbeats 8000000 in
set_option maxRecDepth 8000 in
theorem messages_eq (a1 a2 : Option Addr) (n c1 c2 : Nat) (ms : List Ms) (w : World) (h1 : Mls w a1 n ms) (h2 : Mls w a2 n ms) (hn : n ≤ 1000000000000) (hs : ∀ j, (ms.getD j ms0).hs.length ≤ 1000000000000) :
    Calls Tryz.prog 23 #[.slice a1 n c1, .slice a2 n c2] w fun e w' => e = .returned (.bool true) ∧ Below w.heap.size w w' := by
  have H1 := hide h1
  have H2 := hide h2
  clear h1 h2
  go_enter Tryz.func23, Tryz.ntmps23
  go_wp2
  go_loopw [5] (fun i wr => ∃ k : Nat, k ≤ n ∧ i = .int .i64 k ∧ Below w.heap.size w wr) (fun i _ => n - (Go.RowKit.intOf i).toNat)
  case atStart => exact ⟨0, by omega, rfl, Below.refl _ _⟩
  case round =>
    obtain ⟨k, hk, rfl, hb⟩ := hrel
    by_cases hlt : k < n
    · have hm1 := (unhide H1).below hb
      have hm2 := (unhide H2).below hb
      obtain ⟨p1, q1, rfl, f1⟩ := hm1.2 (by omega)
      obtain ⟨p2, q2, rfl, f2⟩ := hm2.2 (by omega)
      obtain ⟨b1, d1, x0, x1, x2, x3, x4⟩ := f1 k hlt
      obtain ⟨b2, d2, y0, y1, y2, y3, y4⟩ := f2 k hlt
      have hsk := hs k
      generalize ms.getD k ms0 = F at *
      obtain ⟨fm, fp, fh, fb⟩ := F
      simp only at x0 x1 x2 x3 x4 y0 y1 y2 y3 y4 hsk
      have hlt' : (k : Int) < (n : Int) := by omega
      have HX := hide (And.intro x0 (And.intro x1 (And.intro x2 (And.intro x3 x4))))
      have HY := hide (And.intro y0 (And.intro y1 (And.intro y2 (And.intro y3 y4))))
      have HB := hide hb
      clear hb x0 x1 x2 x3 x4 y0 y1 y2 y3 y4 hm1 hm2 f1 f2
      go_wp2
      obtain ⟨x0, x1, x2, x3, x4⟩ := unhide HX
      obtain ⟨y0, y1, y2, y3, y4⟩ := unhide HY
      refine rms p1 q1 p2 q2 n c1 c2 k fh.length d1 d2 b1 b2 fm fp fb rfl rfl rfl _ _ (show 27 ≤ 29 from by decide) rfl rfl rfl (fun _ W => Below wr.heap.size wr W) ((Below.refl _ _).drew) (fun _ _ _ _ h => h) hlt hlt ?_ ?_ ?_ ?_
      · exact fun L W h => ⟨(h.cell (by exact blk_lt x0)).trans x0, (h.cell (by exact blk_lt x0)).trans x1, (h.cell (by exact blk_lt x0)).trans x2, (h.cell (by exact blk_lt x0)).trans x3⟩
      · exact fun L W h => ⟨(h.cell (by exact blk_lt y0)).trans y0, (h.cell (by exact blk_lt y0)).trans y1, (h.cell (by exact blk_lt y0)).trans y2, (h.cell (by exact blk_lt y0)).trans y3⟩
      · intro L W h _
        refine (sameMessage_eq b1 b2 fh.length d1 d2 fh fm fp fb W (x4.below h) (y4.below h) hsk).mono ?_
        rintro e w' ⟨rfl, hb⟩
        exact ⟨rfl, h.trans (hb.mono h.size)⟩
      intro L W _ h
      have HB2 := hide ((unhide HB).trans (h.mono (unhide HB).size))
      clear h x0 x1 x2 x3 x4 y0 y1 y2 y3 y4
      simp only [Act.put, List.setIfInBounds_toArray, List.set_cons_succ, List.set_cons_zero]
      go_wp2
      go_roundw
      case rel => exact ⟨k + 1, by omega, by go_num, unhide HB2⟩
      case measure => simp [Go.RowKit.intOf]; omega
    · have hd : decide (k < n) = false := by simp; omega
      have HB := hide hb
      clear hb
      go_wp2
      go_ret
      exact ⟨rfl, unhide HB⟩
end Go.Proofs.YthlacailhfhjnaaGreatDoor
