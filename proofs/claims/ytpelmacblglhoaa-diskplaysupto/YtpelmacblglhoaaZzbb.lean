import Derived.Test.YtpelmacblglhoaaDst
import Derived.Test.YtpelmacblglhoaaDsy
namespace Go.Proofs.Ytpelmacblglhoaa
open Go.RowKit
set_option maxHeartbeats 8000000
set_option maxRecDepth 8000
/-- What lasts when the first k pending writes are laid down. -/
def snc (last : List Bs) (ws : List Wr) : Nat → List Bs
  | 0 => last
  | k + 1 => (snc last ws k).set (ws.getD k (0, [])).1 (ws.getD k (0, [])).2
theorem snc_len (last : List Bs) (ws : List Wr) (k : Nat) : (snc last ws k).length = last.length := by
  induction k with
  | zero => rfl
  | succ k ih => simp [snc, ih]
theorem snc_sz {last : List Bs} {ws : List Wr} (h : ∀ y ∈ last, y.length = 512) (hw : ∀ x ∈ ws, x.1 < last.length ∧ x.2.length = 512) (k : Nat) (hk : k ≤ ws.length) : ∀ y ∈ snc last ws k, y.length = 512 := by
  induction k with
  | zero => exact h
  | succ k ih => exact set_sz (ih (by omega)) (hw _ (mem_getD (z := (0, [])) (show k < ws.length by omega))).2
/-- Between two writes of a Sync. -/
structure Snc (w : World) (D : Nat) (d : Ds) (vl vw : Value) (k : Nat) (W : World) : Prop where
  dat : DAt D { d with ws := [], last := snc d.last d.ws k } (.slice none 0 0) vl W
  ws : W.ownsRow 0 69 2 vw d.ws.length (cellsW d.ws)
  onl : Only (fun k => k = D ∨ vl.ownBlock = some k) w W
theorem Snc.step {w W W' : World} {D : Nat} {d : Ds} {vl vw : Value} {k g n cap : Nat} (h : Snc w D d vl vw k W) (b : Below W.heap.size W W') (hv : vl = .slice (some ⟨g, 0, none⟩) n cap) :
    Snc w D d vl vw (k + 1) (W'.setCell ⟨g, (d.ws.getD k (0, [])).1, none⟩ (S (d.ws.getD k (0, [])).2)) := by
  subst hv
  have hd := h.dat.below b
  have hw := owns_below h.ws b
  have hls := hd.ls
  have hlen : (({ d with ws := [], last := snc d.last d.ws k } : Ds).last).length = n := by
    obtain ⟨p, c, e⟩ := owns_form hls
    cases e
    rfl
  have oth : ∀ {t a m : Nat} {v : Value} {xs : List Value}, W'.ownsRow 0 t a v m xs → t ≠ 9 → ∀ k, v.ownBlock = some k → ¬ k = g := by
    intro t a m v xs hv ht k hk q
    obtain ⟨c1, q1⟩ := owns_lt hv k hk
    obtain ⟨c2, q2⟩ := owns_lt hls g rfl
    rw [q, q2] at q1
    cases q1
    exact ht rfl
  have e : snc d.last d.ws (k + 1) = (snc d.last d.ws k).set (d.ws.getD k (0, [])).1 (d.ws.getD k (0, [])).2 := rfl
  generalize (d.ws.getD k (0, [])).1 = i at *
  generalize (d.ws.getD k (0, [])).2 = x at *
  have O := Only.setCell W' ⟨g, i, none⟩ (S x)
  refine ⟨⟨?_, owns_nil _ _ _, ?_⟩, owns_only hw O (oth hw (by decide)), ?_⟩
  · rw [O.block D hd.lt (fun q => hd.nl g rfl q.symm)]
    exact hd.blk
  · show World.ownsRow _ 0 9 1 _ (snc d.last d.ws (k + 1)).length ((snc d.last d.ws (k + 1)).map S)
    rw [e, List.length_set, List.map_set]
    have e2 : (snc d.last d.ws k).length = n := hlen
    rw [e2]
    have h3 := hls
    rw [hlen] at h3
    exact owns_set h3 i (S x)
  · exact (h.onl.trans (Only.of_below (P := fun _ => False) b) (fun _ _ q => q.elim)).put ⟨g, i, none⟩ (S x) (Or.inl (Or.inr rfl))
theorem snc_cells {w W W' : World} {D : Nat} {d : Ds} {vl vw : Value} {k g n cap : Nat} (h : Snc w D d vl vw k W) (ho : Ok d) (hk : k < d.ws.length) (hv : vl = .slice (some ⟨g, 0, none⟩) n cap) (b : Below W.heap.size W W') :
    W'.cell? ⟨D, 1, none⟩ = some vl ∧ W'.cell? ⟨g, (d.ws.getD k (0, [])).1, none⟩ = some (S ((snc d.last d.ws k).getD (d.ws.getD k (0, [])).1 [])) ∧ W'.frozen? ⟨g, (d.ws.getD k (0, [])).1, none⟩ = false := by
  subst hv
  have hd := h.dat.below b
  have hi := (ho.lt _ (mem_getD (z := (0, [])) hk)).1
  have hn : (snc d.last d.ws k).length = n := by
    obtain ⟨p, c, e⟩ := owns_form hd.ls
    cases e
    rfl
  obtain ⟨cs, q⟩ := owns_lt hd.ls g rfl
  have hls : W'.ownsRow 0 9 1 (.slice (some ⟨g, 0, none⟩) n cap) n ((snc d.last d.ws k).map S) := by
    have := hd.ls
    rw [show ({ d with ws := [], last := snc d.last d.ws k } : Ds).last.length = n from hn] at this
    exact this
  have hi2 : (d.ws.getD k (0, [])).1 < (snc d.last d.ws k).length := by rw [snc_len]; exact hi
  refine ⟨hd.c.2.1, owns_cell hls _ _ ?_, frz q _⟩
  rw [List.getElem?_map, get_getD hi2]
  rfl
def syncv (d : Ds) : Int := if d.dead then 2 else actv d
def Ds.sync (d : Ds) : Ds := if d.dead then d else if actv d ≠ 0 then d.act else { d.act with ws := [], last := snc d.last d.ws d.ws.length }
theorem sync_any {D : Nat} {d : Ds} {vw vl : Value} {w : World} (h : DAt D d vw vl w) (ho : Ok d) (ha : 0 ≤ d.acts ∧ d.acts ≤ 1000000000000000000) :
    Calls Try.prog 25 #[ptr D] w fun e w' => e = .returned (I (syncv d)) ∧ ∃ vw', DAt D d.sync vw' vl w' ∧ Only (fun k => k = D ∨ vl.ownBlock = some k) w w' ∧ (∀ k, vw'.ownBlock = some k → vw.ownBlock = some k) := by
  have H1 := hide (act_any h ho.fuse ha)
  obtain ⟨c0, c1, c2, c3, c4⟩ := h.c
  have hl := h.lt
  have HD := hide h
  have HO := hide ho
  unfold syncv Ds.sync
  clear h ho ha
  cases hdd : d.dead with
  | true =>
    rw [hdd] at c3
    simp only [if_true]
    go_enter Try.func25, Try.ntmps25
    go_wp2
    go_ret
    exact ⟨rfl, vw, unhide HD, Only.refl _ _, fun k hk => hk⟩
  | false =>
    rw [hdd] at c3
    simp only [Bool.false_eq_true, if_false]
    by_cases ht : actv d = 0
    · have n2 : ¬ actv d ≠ 0 := by simpa using ht
      rw [if_neg n2, ht]
      rw [ht] at H1
      clear n2 ht
      have ed : d.act.ws = d.ws ∧ d.act.last = d.last := ⟨act_ws d, act_last d⟩
      have HE := hide ed
      have HOA := hide (unhide HO).act
      clear ed
      rw [show ({ d.act with ws := [], last := snc d.last d.ws d.ws.length } : Ds) = { d.act with ws := [], last := snc d.act.last d.act.ws d.act.ws.length } by rw [(unhide HE).1, (unhide HE).2]]
      generalize d.act = a at *
      clear HE
      go_enter Try.func25, Try.ntmps25
      go_wp2_with fail
      refine (unhide H1).mono ?_
      rintro e w2 ⟨rfl, h2, o2⟩
      have hl2 := h2.lt
      have H3 := hide (empty_any h2)
      have X2 := hide (And.intro h2 o2)
      obtain ⟨g, c2', cur2, e2, hgx, _⟩ := owns_at h2.ls (by have := (unhide HOA).len; omega)
      obtain ⟨p3, c3', e3⟩ := owns_form h2.ws
      have HE2 := hide (And.intro e2 e3)
      clear h2 o2 hgx
      go_wp2_with fail
      refine (unhide H3).mono ?_
      rintro e w4 ⟨rfl, h4, o4⟩
      have HC := hide (show Snc w D a vl vw 0 w4 from by
        obtain ⟨h2, o2⟩ := unhide X2
        exact ⟨h4, owns_only h2.ws o4 (fun k hk => h2.nw k hk), (o2.mono (fun _ _ q => Or.inl q)).trans o4 (fun k _ q => Or.inl q)⟩)
      have hl4 := h4.lt
      have hfew := (unhide HOA).few
      obtain ⟨e2, e3⟩ := unhide HE2
      subst e3
      clear h4 o4 X2 H3 HD HO
      go_wp2
      go_loopw [20] (fun i wr => ∃ k : Nat, k ≤ a.ws.length ∧ i = .int .i64 k ∧ Snc w D a vl (.slice p3 a.ws.length c3') k wr) (fun i _ => a.ws.length - (Go.RowKit.intOf i).toNat)
      case atStart => exact ⟨0, by omega, rfl, unhide HC⟩
      case round =>
        clear HC
        obtain ⟨k, hk, rfl, hc⟩ := hrel
        have HK := hide hc
        by_cases hlt : k < a.ws.length
        · have hlt' : (k : Int) < (a.ws.length : Int) := by omega
          obtain ⟨g9, c9, cur9, e9, hq9, _⟩ := owns_at hc.ws (by omega)
          cases e9
          have z := cellsW_at a.ws k hlt
          have z0 := owns_cell hc.ws _ _ z.1
          have z1 := owns_cell hc.ws _ _ z.2
          have hz9 := lt_of_row hq9
          have hxx := (unhide HOA).lt _ (mem_getD (z := (0, [])) hlt)
          have ba := (Below.refl wr.heap.size wr).alloc (Nat.le_refl _) (.cells #[I (a.ws.getD k (0, [])).1, S (a.ws.getD k (0, [])).2] 69)
          have hz := heap_alloc_new wr (.cells #[I (a.ws.getD k (0, [])).1, S (a.ws.getD k (0, [])).2] 69)
          obtain ⟨p0, p1, p2⟩ := snc_cells hc (unhide HOA) hlt e2 (below_drew ba)
          have HStep := hide (Snc.step hc (below_drew ba) e2)
          have hgl := blk_lt p1
          clear hc z hq9
          generalize (snc a.last a.ws k).getD (a.ws.getD k (0, [])).1 [] = la at *
          generalize a.ws.getD k (0, []) = x at *
          obtain ⟨x1, x2⟩ := x
          simp only at z0 z1 hxx HStep p1 p2 hz ba
          obtain ⟨hx1, hx2⟩ := hxx
          have hx1' : (x1 : Int) < (a.last.length : Int) := by omega
          have y0 : (wr.alloc (.cells #[I x1, S x2] 69)).cell? ⟨wr.heap.size, 0, none⟩ = some (I x1) := cell_of_row _ _ 0 _ 69 (0, 0) hz
          have y1 : (wr.alloc (.cells #[I x1, S x2] 69)).cell? ⟨wr.heap.size, 1, none⟩ = some (S x2) := cell_of_row _ _ 1 _ 69 (0, 0) hz
          have p0' : (wr.alloc (.cells #[I x1, S x2] 69)).cell? ⟨D, 1, none⟩ = some (.slice (some ⟨g, 0, none⟩) a.last.length c2') := by rw [← e2]; exact p0
          have p1' : (wr.alloc (.cells #[I x1, S x2] 69)).cell? ⟨g, x1, none⟩ = some (S la) := p1
          have p2' : (wr.alloc (.cells #[I x1, S x2] 69)).frozen? ⟨g, x1, none⟩ = false := p2
          clear p0 p1 p2 ba hz
          go_wp2
          go_region
          go_wp2
          go_round
          case measure => simp [Go.RowKit.intOf]; omega
          case rel => exact ⟨k + 1, by omega, by simp, unhide HStep⟩
        · have hlt' : ¬ (k : Int) < (a.ws.length : Int) := by omega
          obtain rfl : k = a.ws.length := by omega
          clear hc e2
          go_wp2
          go_ret
          have hK := unhide HK
          rw [(unhide HE2).1] at hK
          exact ⟨rfl, .slice none 0 0, hK.dat, hK.onl, fun k hk => by cases hk⟩
    · have n2 : actv d ≠ 0 := ht
      rw [if_pos n2]
      generalize actv d = r at *
      go_enter Try.func25, Try.ntmps25
      go_wp2_with fail
      refine (unhide H1).mono ?_
      rintro e w2 ⟨rfl, h2, o2⟩
      have HF := hide (And.intro h2 (o2.mono (Q := fun k => k = D ∨ vl.ownBlock = some k) (fun _ _ q => Or.inl q)))
      clear h2 o2
      go_wp2
      go_ret
      exact ⟨rfl, vw, (unhide HF).1, (unhide HF).2, fun k hk => hk⟩
end Go.Proofs.Ytpelmacblglhoaa
namespace Go.Proofs.Ytpelmacblglhoaa
/-- Two rows by rising blocks that tell the same of each block are the same. -/
theorem srt_ext {a b : List Wr} (ha : Srt a) (hb : Srt b) (h : ∀ m, fnd a m = fnd b m) : a = b := by
  induction a generalizing b with
  | nil =>
    cases b with
    | nil => rfl
    | cons y b =>
      have := h y.1
      rw [fnd_cons, if_pos rfl] at this
      cases this
  | cons x a ih =>
    cases b with
    | nil =>
      have := h x.1
      rw [fnd_cons, if_pos rfl] at this
      cases this
    | cons y b =>
      have e1 := h x.1
      have e2 := h y.1
      rw [fnd_cons, if_pos rfl, fnd_cons] at e1
      rw [fnd_cons, fnd_cons, if_pos rfl] at e2
      have hxy : x.1 = y.1 := by
        by_cases q : y.1 = x.1
        · exact q.symm
        · rw [if_neg q] at e1
          rw [if_neg (fun r => q r.symm)] at e2
          have m1 := hb.head _ (fnd_mem e1.symm)
          have m2 := ha.head _ (fnd_mem e2)
          simp only at m1 m2
          omega
      rw [if_pos hxy.symm] at e1
      have hx2 : x.2 = y.2 := Option.some.inj e1
      have ex : x = y := Prod.ext hxy hx2
      subst ex
      congr 1
      refine ih ha.tail hb.tail (fun m => ?_)
      have := h m
      rw [fnd_cons, fnd_cons] at this
      by_cases q : x.1 = m
      · have n1 : fnd a m = none := by
          cases r : fnd a m with
          | none => rfl
          | some s => have := ha.head _ (fnd_mem r); simp only at this; omega
        have n2 : fnd b m = none := by
          cases r : fnd b m with
          | none => rfl
          | some s => have := hb.head _ (fnd_mem r); simp only at this; omega
        rw [n1, n2]
      · rwa [if_neg q, if_neg q] at this
/-- What is pending by the law's own book: of the first k blocks those that have a text. -/
def pnd (now : List Bs) : Nat → List Wr
  | 0 => []
  | k + 1 => if now.getD k [] = [] then pnd now k else pnd now k ++ [(k, now.getD k [])]
theorem pnd_lt (now : List Bs) (k : Nat) : ∀ x ∈ pnd now k, x.1 < k := by
  induction k with
  | zero => intro x hx; cases hx
  | succ k ih =>
    intro x hx
    unfold pnd at hx
    split at hx
    · have := ih x hx; omega
    · rcases List.mem_append.1 hx with q | q
      · have := ih x q; omega
      · rw [List.mem_singleton.1 q]; exact Nat.lt_succ_self k
theorem pnd_le (now : List Bs) (k : Nat) : (pnd now k).length ≤ k := by
  induction k with
  | zero => simp [pnd]
  | succ k ih =>
    unfold pnd
    split
    · omega
    · simp
      omega
theorem Srt.snoc {l : List Wr} {x : Wr} (h : Srt l) (hx : ∀ y ∈ l, y.1 < x.1) : Srt (l ++ [x]) := by
  intro i j hij hj
  simp at hj
  have gi : (l ++ [x]).getD i (0, []) = l.getD i (0, []) := by
    rw [List.getD_eq_getElem?_getD, List.getElem?_append_left (by omega), List.getD_eq_getElem?_getD]
  rw [gi]
  by_cases q : j < l.length
  · have gj : (l ++ [x]).getD j (0, []) = l.getD j (0, []) := by
      rw [List.getD_eq_getElem?_getD, List.getElem?_append_left q, List.getD_eq_getElem?_getD]
    rw [gj]
    exact h i j hij q
  · obtain rfl : j = l.length := by omega
    have gj : (l ++ [x]).getD l.length (0, []) = x := by simp
    rw [gj]
    exact hx _ (mem_getD (by omega))
theorem pnd_srt (now : List Bs) (k : Nat) : Srt (pnd now k) := by
  induction k with
  | zero => intro i j h1 h2; simp [pnd] at h2
  | succ k ih =>
    unfold pnd
    split
    · exact ih
    · exact ih.snoc (fun y hy => pnd_lt now k y hy)
theorem fnd_append (a b : List Wr) (m : Nat) : fnd (a ++ b) m = match fnd a m with | some s => some s | none => fnd b m := by
  induction a with
  | nil => rfl
  | cons x a ih =>
    rw [List.cons_append, fnd_cons, fnd_cons]
    split
    · rfl
    · exact ih
theorem pnd_fnd (now : List Bs) (k m : Nat) : fnd (pnd now k) m = if m < k ∧ now.getD m [] ≠ [] then some (now.getD m []) else none := by
  induction k with
  | zero => simp [pnd, fnd]
  | succ k ih =>
    unfold pnd
    by_cases q : now.getD k [] = []
    · rw [if_pos q, ih]
      by_cases hm : m = k
      · subst hm
        rw [if_neg (by omega), if_neg (fun r => r.2 q)]
      · by_cases r : m < k ∧ now.getD m [] ≠ []
        · rw [if_pos r, if_pos ⟨by omega, r.2⟩]
        · rw [if_neg r, if_neg (fun s => r ⟨by omega, s.2⟩)]
    · rw [if_neg q, fnd_append, ih]
      by_cases hm : m = k
      · subst hm
        rw [if_neg (by omega), if_pos ⟨by omega, q⟩]
        simp [fnd]
      · by_cases r : m < k ∧ now.getD m [] ≠ []
        · rw [if_pos r, if_pos ⟨by omega, r.2⟩]
        · rw [if_neg r, if_neg (fun s => r ⟨by omega, s.2⟩)]
          have : ¬ k = m := fun e => hm e.symm
          simp [fnd, this]
theorem pnd_put (now : List Bs) (b : Nat) (s : Bs) (h : now.length = 9) (hb : b < 9) (hs : s ≠ []) : putW (pnd now 9) b s = pnd (now.set b s) 9 := by
  refine srt_ext (putW_srt (pnd_srt _ _)) (pnd_srt _ _) (fun m => ?_)
  rw [putW_fnd, pnd_fnd, pnd_fnd]
  by_cases q : m = b
  · subst q
    have e : (now.set m s).getD m [] = s := by simp [h, hb]
    rw [if_pos rfl, e, if_pos ⟨hb, hs⟩]
  · have e : (now.set b s).getD m [] = now.getD m [] := by
      rw [List.getD_eq_getElem?_getD, List.getD_eq_getElem?_getD, List.getElem?_set_ne (fun r => q r.symm)]
    rw [if_neg q, e]
/-- What lasts behind a Sync, by the law's own book. -/
theorem snc_at (last : List Bs) (ws : List Wr) (hs : Srt ws) (k m : Nat) (hk : k ≤ ws.length) (hl : ∀ x ∈ ws, x.1 < last.length) : (snc last ws k).getD m [] = (fnd (ws.take k) m).getD (last.getD m []) := by
  induction k with
  | zero => simp [snc, fnd]
  | succ k ih =>
    have hk' : k < ws.length := by omega
    have ex : ws.getD k (0, []) = ws[k] := by simp [hk']
    have hlt := hl _ (mem_getD (z := (0, [])) hk')
    rw [List.take_succ_eq_append_getElem hk', fnd_append]
    unfold snc
    by_cases q : m = (ws.getD k (0, [])).1
    · have n1 : fnd (ws.take k) m = none := by
        cases r : fnd (ws.take k) m with
        | none => rfl
        | some s =>
          have hm := fnd_mem r
          obtain ⟨j, hj, e⟩ := List.getElem_of_mem hm
          have hj2 : j < k := by simp at hj; omega
          have := hs j k hj2 hk'
          rw [List.getElem_take] at e
          have ej : ws.getD j (0, []) = (m, s) := by rw [← e]; simp [show j < ws.length by omega]
          rw [ej] at this
          simp only at this
          omega
      rw [n1]
      simp only
      rw [q, List.getD_eq_getElem?_getD, List.getElem?_set_self (by rw [snc_len]; exact hlt)]
      rw [ex]
      simp [fnd]
    · rw [List.getD_eq_getElem?_getD, List.getElem?_set_ne (fun r => q r.symm), ← List.getD_eq_getElem?_getD, ih (by omega)]
      cases r : fnd (ws.take k) m with
      | some s => rfl
      | none =>
        have : ¬ ws[k].1 = m := by rw [← ex]; exact fun e => q e.symm
        simp [fnd, this]
end Go.Proofs.Ytpelmacblglhoaa
namespace Go.Proofs.Ytpelmacblglhoaa
theorem sect_all (x : Bs) (h : x.length = 512) : (List.range 8).flatMap (fun s => sect s x) = x := by
  have key : ∀ k, k ≤ 8 → (List.range k).flatMap (fun s => sect s x) = x.take (64 * k) := by
    intro k
    induction k with
    | zero => intro _; simp
    | succ k ih =>
      intro hk
      rw [List.range_succ, List.flatMap_append, ih (by omega)]
      simp only [List.flatMap_cons, List.flatMap_nil, List.append_nil, sect]
      rw [show 64 * (k + 1) = 64 * k + 64 by omega, List.take_add]
  rw [key 8 (by omega), List.take_of_length_le (by omega)]
theorem torn_none (a b : Bs) (h : a.length = 512) : tornv a b 0 = a := by
  have e : ∀ s, inSet 0 s = false := by intro s; simp [inSet]
  unfold tornv tornK
  simp only [e, Bool.false_eq_true, if_false]
  exact sect_all a h
theorem crs_prefix (last : List Bs) (ws : List Wr) (x : Wr) (st : St) (k : Nat) (hk : k ≤ ws.length) : crs last (ws ++ [x]) st k = crs last ws st k := by
  induction k with
  | zero => rfl
  | succ k ih =>
    have e : (ws ++ [x]).getD k (0, []) = ws.getD k (0, []) := by
      rw [List.getD_eq_getElem?_getD, List.getElem?_append_left (by omega), List.getD_eq_getElem?_getD]
    simp only [crs]
    rw [ih (by omega), e]
theorem crs_miss (last : List Bs) (ws : List Wr) (st : St) (k m : Nat) (h : ∀ j, j < k → (ws.getD j (0, [])).1 ≠ m) : (crs last ws st k).getD m [] = last.getD m [] := by
  induction k with
  | zero => rfl
  | succ k ih =>
    simp only [crs]
    rw [List.getD_eq_getElem?_getD, List.getElem?_set_ne (h k (by omega)), ← List.getD_eq_getElem?_getD]
    exact ih (fun j hj => h j (by omega))
/-- What must stand behind the crash, by the law's own book. -/
def wnt (last now : List Bs) (ss : List Int) : Nat → List Bs
  | 0 => last
  | m + 1 => if now.getD m [] = [] then wnt last now ss m else if (pnd now m).length < ss.length then (wnt last now ss m).set m (tornv (last.getD m []) (now.getD m []) (pkv (ss.getD (pnd now m).length 0) 256)) else wnt last now ss m
theorem pnd_mono (now : List Bs) (a b : Nat) (h : a ≤ b) : (pnd now a).length ≤ (pnd now b).length := by
  induction b with
  | zero => obtain rfl : a = 0 := by omega
            exact Nat.le_refl _
  | succ b ih =>
    rcases Nat.lt_or_eq_of_le h with q | q
    · have := ih (by omega)
      show _ ≤ (if now.getD b [] = [] then pnd now b else pnd now b ++ [(b, now.getD b [])]).length
      split
      · exact this
      · simp; omega
    · rw [q]; exact Nat.le_refl _
theorem set_same (l : List Bs) (m : Nat) (h : m < l.length) : l.set m (l.getD m []) = l := by
  apply List.ext_getElem?
  intro i
  by_cases q : m = i
  · subst q
    rw [List.getElem?_set_self h]
    simp [h]
  · rw [List.getElem?_set_ne q]
theorem crs_wnt (last now : List Bs) (ss : List Int) (st : St) (n : Nat) (hl : ∀ m, m < n → (last.getD m []).length = 512) (hn : n ≤ last.length) (hst : ∀ j, j < (pnd now n).length → st.getD j none = if j < ss.length then some (pkv (ss.getD j 0) 256) else none) (m : Nat) (hm : m ≤ n) : crs last (pnd now m) st (pnd now m).length = wnt last now ss m := by
  induction m with
  | zero => rfl
  | succ m ih =>
    have ih := ih (by omega)
    by_cases q : now.getD m [] = []
    · have e1 : pnd now (m + 1) = pnd now m := by show (if _ then _ else _) = _; rw [if_pos q]
      have e2 : wnt last now ss (m + 1) = wnt last now ss m := by show (if _ then _ else _) = _; rw [if_pos q]
      rw [e1, e2, ih]
    · have e1 : pnd now (m + 1) = pnd now m ++ [(m, now.getD m [])] := by show (if _ then _ else _) = _; rw [if_neg q]
      have e2 : wnt last now ss (m + 1) = if (pnd now m).length < ss.length then (wnt last now ss m).set m (tornv (last.getD m []) (now.getD m []) (pkv (ss.getD (pnd now m).length 0) 256)) else wnt last now ss m := by show (if _ then _ else _) = _; rw [if_neg q]
      have hlt : (pnd now m).length < (pnd now n).length := by
        have := pnd_mono now (m + 1) n hm
        rw [e1] at this
        simp at this
        omega
      rw [e1, e2, List.length_append, List.length_singleton]
      have ex : (pnd now m ++ [(m, now.getD m [])]).getD (pnd now m).length (0, []) = (m, now.getD m []) := by simp
      have em : (crs last (pnd now m) st (pnd now m).length).getD m [] = last.getD m [] := crs_miss _ _ _ _ _ (fun j hj => by
        have := pnd_lt now m _ (mem_getD (z := (0, [])) hj)
        omega)
      show List.set _ _ _ = _
      rw [ex, crs_prefix _ _ _ _ _ (Nat.le_refl _), em, hst _ hlt, ih]
      rw [ih] at em
      by_cases r : (pnd now m).length < ss.length
      · rw [if_pos r, if_pos r]
        rfl
      · rw [if_neg r, if_neg r]
        show List.set _ m (tornv _ _ 0) = _
        rw [torn_none _ _ (hl m (by omega)), ← em]
        refine set_same _ _ ?_
        rw [← ih, crs_len]
        omega
/-- The keeps that the law names. -/
def ks (ss : List Int) (q : Nat) : List Kp := (List.range q).map (fun j : Nat => ((j : Int), ((pkv (ss.getD j 0) 256 : Nat) : Int)))
theorem ks_next (ss : List Int) (q : Nat) : ks ss (q + 1) = ks ss q ++ [((q : Int), ((pkv (ss.getD q 0) 256 : Nat) : Int))] := by simp [ks, List.range_succ]
theorem ks_len (ss : List Int) (q : Nat) : (ks ss q).length = q := by simp [ks]
def stv (n : Nat) (ss : List Int) (q : Nat) : St := (List.range n).map (fun j => if j < q then some (pkv (ss.getD j 0) 256) else none)
theorem stv_len (n : Nat) (ss : List Int) (q : Nat) : (stv n ss q).length = n := by simp [stv]
theorem stv_at (n : Nat) (ss : List Int) (q j : Nat) (h : j < n) : (stv n ss q).getD j none = if j < q then some (pkv (ss.getD j 0) 256) else none := by simp [stv, h]
theorem stps_ks (n : Nat) (ss : List Int) (q : Nat) (h : q ≤ n) : stps (List.replicate n none) (ks ss q) = some (stv n ss q) := by
  induction q with
  | zero =>
    show some _ = some _
    congr 1
    apply List.ext_getElem
    · simp [stv]
    · intro i h1 h2
      simp [stv]
  | succ q ih =>
    rw [ks_next, stps_append, ih (by omega)]
    simp only [stps]
    have hp := pkv_lt (ss.getD q 0) 256 (by omega)
    have hI : isS ((pkv (ss.getD q 0) 256 : Nat) : Int) = true := by
      generalize pkv (ss.getD q 0) 256 = p at hp ⊢
      simp [isS]
      omega
    have e : stp (stv n ss q) ((q : Int), ((pkv (ss.getD q 0) 256 : Nat) : Int)) = some (stv n ss (q + 1)) := by
      unfold stp
      simp only [Int.toNat_natCast]
      rw [if_neg (by omega), stv_len, if_neg (by omega), stv_at n ss q q (by omega), if_neg (by simp), if_neg (by rw [hI]; decide)]
      refine congrArg some ?_
      apply List.ext_getElem?
      intro i
      by_cases r : q = i
      · subst r
        rw [List.getElem?_set_self (by rw [stv_len]; omega), get_getD (z := none) (by rw [stv_len]; omega), stv_at n ss (q + 1) q (by omega), if_pos (by omega)]
      · rw [List.getElem?_set_ne r]
        by_cases hi : i < n
        · rw [get_getD (z := none) (by rw [stv_len]; exact hi), get_getD (z := none) (by rw [stv_len]; exact hi), stv_at n ss q i hi, stv_at n ss (q + 1) i hi]
          by_cases hq : i < q
          · rw [if_pos hq, if_pos (by omega)]
          · rw [if_neg hq, if_neg (by omega)]
        · rw [List.getElem?_eq_none (by rw [stv_len]; omega), List.getElem?_eq_none (by rw [stv_len]; omega)]
    rw [e]
end Go.Proofs.Ytpelmacblglhoaa
