import Derived.Test.YtdncebdlhoogcaaSmsa
namespace Go.Proofs.Ytdncebdlhoogcaa
open Go.RowKit
open Sha
/-- A step of a script. -/
structure Stp where
  k : Int
  o : Int
  s : List UInt8
def st0 : Stp := ⟨0, 0, []⟩
def Scr (w : World) (a : Option Addr) (n : Nat) (os : List Stp) : Prop :=
  n = os.length ∧ (0 < n → ∃ p o, a = some ⟨p, o, none⟩ ∧ ∀ j, j < n → w.cell? ⟨p, o + j * 3, none⟩ = some (.int .i64 (os.getD j st0).k) ∧ w.cell? ⟨p, o + j * 3 + 1, none⟩ = some (.int .i64 (os.getD j st0).o) ∧ w.cell? ⟨p, o + j * 3 + 2, none⟩ = some (.string ⟨(os.getD j st0).s.toArray⟩))
theorem Scr.at {w : World} {a : Option Addr} {n : Nat} {os : List Stp} (h : Scr w a n os) {j : Nat} (hj : j < n) : ∃ p o, a = some ⟨p, o, none⟩ ∧ p < w.heap.size ∧ w.cell? ⟨p, o + j * 3, none⟩ = some (.int .i64 (os.getD j st0).k) ∧ w.cell? ⟨p, o + j * 3 + 1, none⟩ = some (.int .i64 (os.getD j st0).o) ∧ w.cell? ⟨p, o + j * 3 + 2, none⟩ = some (.string ⟨(os.getD j st0).s.toArray⟩) := by
  obtain ⟨p, o, e, hc⟩ := h.2 (by omega)
  exact ⟨p, o, e, block_lt_of_cell (hc j hj).1, hc j hj⟩
theorem Scr.below {w w' : World} {a : Option Addr} {n : Nat} {os : List Stp} (h : Scr w a n os) (hb : Below w.heap.size w w') : Scr w' a n os := by
  refine ⟨h.1, fun hn => ?_⟩
  obtain ⟨p, o, e, hc⟩ := h.2 hn
  exact ⟨p, o, e, fun j hj => ⟨(hb.cell (by exact block_lt_of_cell (hc j hj).1)).trans (hc j hj).1, (hb.cell (by exact block_lt_of_cell (hc j hj).2.1)).trans (hc j hj).2.1, (hb.cell (by exact block_lt_of_cell (hc j hj).2.2)).trans (hc j hj).2.2⟩⟩
/-- How much was counted. -/
def cns : List Stp → Nat
  | [] => 0
  | x :: l => 1 + x.s.length + cns l
theorem cns_next (os : List Stp) (k : Nat) (h : k < os.length) : cns (os.take (k + 1)) = cns (os.take k) + 1 + (os.getD k st0).s.length := by
  induction os generalizing k with
  | nil => simp at h
  | cons x l ih =>
    cases k with
    | zero => simp [cns]
    | succ k =>
      have := ih k (by simpa using h)
      simp only [List.take_succ_cons, cns, this, List.getD_cons_succ]
      omega
theorem cns_len (os : List Stp) : os.length ≤ cns os := by
  induction os with
  | nil => simp [cns]
  | cons x l ih => simp only [List.length_cons, cns]; omega
theorem cns_mono (os : List Stp) (k : Nat) : cns (os.take k) ≤ cns os := by
  induction os generalizing k with
  | nil => simp [cns]
  | cons x l ih =>
    cases k with
    | zero => simp [cns]
    | succ k => have := ih k; simp only [List.take_succ_cons, cns]; omega
set_option maxHeartbeats 1000000 in
set_option maxRecDepth 8000 in
theorem over_any (a : Option Addr) (n cap : Nat) (os : List Stp) (w : World) (hp : Scr w a n os) (hn : n ≤ 140737488351232) (hps : ∀ j, (os.getD j st0).s.length ≤ 140737488351232) :
    Calls Try.prog 24 #[.slice a n cap] w fun e w' => w' = w ∧ ∃ r : Bool, e = .returned (.bool r) ∧ (r = false → cns os ≤ 2147483647) := by
  have HP := hide hp
  clear hp
  go_enter Try.func24, Try.ntmps24
  go_wp2
  go_loopw [3, 4] (fun c i wr => ∃ k : Nat, k ≤ n ∧ i = .int .i64 k ∧ c = .int .i64 ((cns (os.take k) : Nat) : Int) ∧ cns (os.take k) ≤ 281474976710656 ∧ wr = w) (fun _ i _ => n - (intOf i).toNat)
  case atStart => exact ⟨0, by omega, rfl, rfl, by simp [cns], rfl⟩
  case round =>
    obtain ⟨k, hkn, rfl, rfl, hb, rfl⟩ := hrel
    by_cases hlt : k < n
    · by_cases hm : cns (os.take k) ≤ 2147483647
      · obtain ⟨p, o, rfl, hpl, hc1, hc2, hc3⟩ := (unhide HP).at hlt
        have hnx := hide (cns_next os k (by have := (unhide HP).1; omega))
        have hX := hps k
        generalize os.getD k st0 = X at *
        generalize cns (os.take k) = C at *
        have hm' : (C : Int) ≤ 2147483647 := by omega
        go_wp2
        go_roundw
        case rel =>
          refine ⟨k + 1, by omega, by go_num, ?_, ?_, trivial⟩
          · rw [unhide hnx]; go_num
          · rw [unhide hnx]; omega
        case measure => simp [intOf]; omega
      · generalize cns (os.take k) = C at *
        have hm' : decide ((C : Int) ≤ 2147483647) = false := by simp; omega
        have hm2 : decide (C ≤ 2147483647) = false := by simp; omega
        have hg' : decide ((2147483647 : Int) < (C : Int)) = true := by simp; omega
        go_wp2
        go_ret
        exact ⟨rfl, true, rfl, fun q => by cases q⟩
    · have hkn' : k = n := by omega
      have e : os.take k = os := List.take_of_length_le (by have := (unhide HP).1; omega)
      rw [e] at hb ⊢
      have hd : decide (k < n) = false := by simp; omega
      generalize hC : cns os = C at *
      clear hlt hkn'
      go_wp2
      go_ret
      refine ⟨rfl, _, rfl, fun q => ?_⟩
      have := of_decide_eq_false q
      omega
set_option maxHeartbeats 1000000 in
theorem tells_any (t : List UInt8) (b : Nat) (w : World) (hr : Row w b (hc (took h0 t)) 70) (ht : t.length ≤ 2147483647) :
    Calls Try.prog 31 #[.pointer (some ⟨b, 0, none⟩), .string ⟨t.toArray⟩] w fun e w' => e = .returned (.bool true) ∧ Below w.heap.size w w' := by
  have hT : (took h0 t).t.length = 64 := by rw [took_t]; rfl
  have hN : (took h0 t).n = t.length := by rw [took_n, h0_n]; omega
  have HR := hide hr
  clear hr
  go_enter Try.func31, Try.ntmps31
  go_wp2_with fail
  refine (hsum_any _ b w (unhide HR) hT (by rw [hN]; omega)).mono ?_
  rintro e w1 ⟨rfl, hb1⟩
  rw [show sumH (took h0 t) = sum t from rfl]
  have HR1 := hide ((unhide HR).below hb1 (unhide HR).lt)
  clear HR
  go_wp2_with fail
  refine (refsum_any t w1 (by omega)).mono ?_
  rintro e w2 ⟨rfl, hb2⟩
  have HR2 := hide ((unhide HR1).below hb2 (unhide HR1).lt)
  clear HR1
  have hb := hb1.trans (hb2.mono hb1.size)
  clear hb1 hb2
  go_wp2_with fail
  refine (len_any _ b w2 (unhide HR2) hT).mono ?_
  rintro e w3 ⟨rfl, rfl⟩
  rw [hN]
  go_wp2
  go_ret
  exact ⟨rfl, hb⟩
def pt (b : Nat) : Value := .pointer (some ⟨b, 0, none⟩)
theorem own39_ne {w : World} {base b n : Nat} {v : Value} {xs : List Value} {c : Array Value} (h : w.ownsRow base 39 1 v n xs) (hr : Row w b c 70) : v.ownBlock ≠ some b := by
  intro q
  rcases h.2 with ⟨e, _⟩ | ⟨g, cap, cur, e1, _, e3, _⟩
  · subst e; simp [Value.ownBlock] at q
  · subst e1
    simp [Value.ownBlock] at q
    subst q
    rw [Row] at hr
    rw [hr] at e3
    simp at e3
theorem own_apart {w : World} {base n m : Nat} {v u : Value} {xs ys : List Value} (h : w.ownsRow base 39 1 v n xs) (k : w.ownsRow base 9 1 u m ys) (b : Nat) (hv : v.ownBlock = some b) : u.ownBlock ≠ some b := by
  intro hu
  rcases h.2 with ⟨e, _⟩ | ⟨g, cap, cur, e1, _, e3, _⟩
  · subst e; simp [Value.ownBlock] at hv
  · rcases k.2 with ⟨e, _⟩ | ⟨g', cap', cur', f1, _, f3, _⟩
    · subst e; simp [Value.ownBlock] at hu
    · subst e1 f1
      simp [Value.ownBlock] at hv hu
      subst hv hu
      rw [e3] at f3
      simp at f3
theorem ownsRow_below {w w' : World} {base n : Nat} {e : TypeId} {v : Value} {xs : List Value} (h : w.ownsRow base e 1 v n xs) (hb : Below w.heap.size w w') : w'.ownsRow base e 1 v n xs := by
  refine ⟨h.1, ?_⟩
  rcases h.2 with q | ⟨g, cap, cur, e1, e2, e3, r⟩
  · exact .inl q
  · exact .inr ⟨g, cap, cur, e1, e2, (hb.block g (Array.getElem?_eq_some_iff.1 e3).1).trans e3, r⟩
theorem ownsRow_other {w w' : World} {base n : Nat} {e : TypeId} {v : Value} {xs : List Value} (h : w.ownsRow base e 1 v n xs) (hb : ∀ g, g < w.heap.size → v.ownBlock = some g → w'.heap[g]? = w.heap[g]?) : w'.ownsRow base e 1 v n xs := by
  refine ⟨h.1, ?_⟩
  rcases h.2 with q | ⟨g, cap, cur, e1, e2, e3, r⟩
  · exact .inl q
  · exact .inr ⟨g, cap, cur, e1, e2, (hb g (Array.getElem?_eq_some_iff.1 e3).1 (by rw [e1]; rfl)).trans e3, r⟩
/-- The hashers, what each of them has taken, and the texts that are kept beside them. -/
structure PI (w wr : World) (vh vs : Value) (bs : List Nat) (rs ts : List (List UInt8)) : Prop where
  oh : wr.ownsRow w.heap.size 39 1 vh bs.length (bs.map pt)
  os : wr.ownsRow w.heap.size 9 1 vs bs.length (ts.map tS)
  pos : 0 < bs.length
  rl : rs.length = bs.length
  row : ∀ j, j < bs.length → Row wr (bs.getD j 0) (hc (took h0 (rs.getD j []))) 70
  ge : ∀ j, j < bs.length → w.heap.size ≤ bs.getD j 0
  nd : ∀ i j, i < bs.length → j < bs.length → i ≠ j → bs.getD i 0 ≠ bs.getD j 0
  be : Below w.heap.size w wr
section
variable {gh ch g cap : Nat} {w wr w' : World} {vh vs : Value} {bs : List Nat} {rs ts : List (List UInt8)}
theorem PI.tl (h : PI w wr vh vs bs rs ts) : ts.length = bs.length := by simpa using h.os.1
theorem PI.below (h : PI w wr vh vs bs rs ts) (hb : Below wr.heap.size wr w') : PI w w' vh vs bs rs ts :=
  ⟨ownsRow_below h.oh hb, ownsRow_below h.os hb, h.pos, h.rl, fun j hj => (h.row j hj).below hb (h.row j hj).lt, h.ge, h.nd, h.be.trans (hb.mono h.be.size)⟩
theorem PI.atH (h : PI w wr vh vs bs rs ts) : ∃ g cap, vh = .slice (some ⟨g, 0, none⟩) bs.length cap ∧ g < wr.heap.size ∧ w.heap.size ≤ g ∧ ∀ j, j < bs.length → wr.cell? ⟨g, j, none⟩ = some (.pointer (some ⟨bs.getD j 0, 0, none⟩)) := by
  have := h.oh
  rcases h.oh.2 with ⟨_, q⟩ | ⟨g, cap, cur, e1, e2, e3, _⟩
  · have := h.pos; omega
  · subst e1
    refine ⟨g, cap, rfl, (Array.getElem?_eq_some_iff.1 e3).1, e2, fun j hj => ?_⟩
    rw [this.cellAt j (by omega)]
    simp [pt, hj]
theorem PI.atS (h : PI w wr vh vs bs rs ts) : ∃ g cap, vs = .slice (some ⟨g, 0, none⟩) bs.length cap ∧ g < wr.heap.size ∧ w.heap.size ≤ g ∧ ∀ j, j < bs.length → wr.cell? ⟨g, j, none⟩ = some (.string ⟨(ts.getD j []).toArray⟩) ∧ wr.frozen? ⟨g, j, none⟩ = false := by
  have := h.os
  rcases h.os.2 with ⟨_, q⟩ | ⟨g, cap, cur, e1, e2, e3, _⟩
  · have := h.pos; omega
  · subst e1
    refine ⟨g, cap, rfl, (Array.getElem?_eq_some_iff.1 e3).1, e2, fun j hj => ⟨?_, this.frozenAt j⟩⟩
    rw [this.cellAt j (by omega)]
    have : j < ts.length := by rw [h.tl]; exact hj
    simp [tS, this]
theorem PI.write (h : PI w wr vh vs bs rs ts) (m : Nat) (hm : m < bs.length) (x : List UInt8)
    (hr : Row w' (bs.getD m 0) (hc (took (took h0 (rs.getD m [])) x)) 70) (ho : Only (bs.getD m 0) wr w') : PI w w' vh vs bs (rs.set m (rs.getD m [] ++ x)) ts := by
  refine ⟨ownsRow_other h.oh (fun g hg e => ho.block g hg ?_), ownsRow_other h.os (fun g hg e => ho.block g hg ?_), h.pos, by simpa using h.rl, fun j hj => ?_, h.ge, h.nd, ho.below h.be (h.ge m hm) h.be.size⟩
  · intro q
    subst q
    exact own39_ne h.oh (h.row m hm) e
  · intro q
    subst q
    exact own_ne h.os (h.row m hm) e
  · by_cases e : m = j
    · subst e
      have : m < rs.length := by rw [h.rl]; exact hm
      have e2 : (rs.set m (rs.getD m [] ++ x)).getD m [] = rs.getD m [] ++ x := by simp [this]
      rw [e2, took_append]
      exact hr
    · have e2 : (rs.set m (rs.getD m [] ++ x)).getD j [] = rs.getD j [] := by simp [e]
      rw [e2]
      exact ho.row (h.row j hj) (h.nd j m hj hm (Ne.symm e))
theorem PI.text (h : PI w wr (.slice (some ⟨gh, 0, none⟩) bs.length ch) (.slice (some ⟨g, 0, none⟩) bs.length cap) bs rs ts) (m : Nat) (x : List UInt8) (n : Nat) :
    PI w ((wr.setCell ⟨g, m, none⟩ (.string ⟨x.toArray⟩)).drewN n) (.slice (some ⟨gh, 0, none⟩) bs.length ch) (.slice (some ⟨g, 0, none⟩) bs.length cap) bs rs (ts.set m x) := by
  have hs := (h.os.stored m (tS x)).1
  have hg := (h.os.lt g rfl).1
  refine ⟨ownsRow_other h.oh (fun q hq e => ?_), ?_, h.pos, h.rl, fun j hj => ?_, h.ge, h.nd, ?_⟩
  · have hne : q ≠ g := by
      intro e2
      subst e2
      exact own_apart h.oh h.os q e rfl
    show (wr.setCell ⟨g, m, none⟩ _).heap[q]? = _
    exact heap_setCell_other wr ⟨g, m, none⟩ q _ hne
  · rw [List.map_set]
    exact hs
  · have hne : bs.getD j 0 ≠ g := by
      intro e2
      exact own_ne h.os (h.row j hj) (by rw [e2]; rfl)
    exact ((h.row j hj).set_other _ _ hne).drewN n
  · have := h.be.setCell (p := ⟨g, m, none⟩) hg (.string ⟨x.toArray⟩)
    exact ⟨this.os, this.tape, this.output, this.size, this.block⟩
theorem PI.apart (h : PI w wr vh vs bs rs ts) : vs.ownBlock ≠ vh.ownBlock := by
  obtain ⟨g, cap, e, _⟩ := h.atH
  have := own_apart h.oh h.os g (by rw [e]; rfl)
  rw [e]
  exact this
theorem PI.pushed {w1 w2 w3 : World} {vh' vs' : Value} (h : PI w wr vh vs bs rs ts) (b : Nat) (t : List UInt8) (o1 o2 : Obj)
    (hb1 : Below wr.heap.size wr w1) (hbb : wr.heap.size ≤ b) (hr : Row w1 b (hc (took h0 t)) 70)
    (oh : w2.ownsRow w.heap.size 39 1 vh' (bs.length + 1) (bs.map pt ++ [pt b])) (g1 : (w1.alloc o1).grownBy w2 vh.ownBlock)
    (os : w3.ownsRow w.heap.size 9 1 vs' (bs.length + 1) (ts.map tS ++ [tS t])) (g2 : (w2.alloc o2).grownBy w3 vs.ownBlock) :
    PI w w3 vh' vs' (bs ++ [b]) (rs ++ [t]) (ts ++ [t]) := by
  have h1 := (h.below hb1).below (alloc_below w1 o1)
  have hra := hr.alloc o1
  have os2 := h1.os.kept g1 (.inr h1.apart)
  have hb2 : Below w.heap.size w w2 := h1.be.grown g1 h1.be.size (fun q e => (h1.oh.lt q e).1)
  have hb3 : Below w.heap.size w w3 := (hb2.alloc hb2.size o2).grown g2 (by have := hb2.size; simp; omega) (fun q e => (os2.lt q e).1)
  have row3 : ∀ (c : Nat) (x : Array Value), Row (w1.alloc o1) c x 70 → Row w3 c x 70 := by
    intro c x hc
    have c2 : Row w2 c x 70 := (g1.block c hc.lt (fun q => own39_ne h1.oh hc q.symm)).trans hc
    have c2a := c2.alloc o2
    exact (g2.block c c2a.lt (fun q => own_ne (os2.alloc o2) c2a q.symm)).trans c2a
  have oh3 : w3.ownsRow w.heap.size 39 1 vh' (bs.length + 1) (bs.map pt ++ [pt b]) := by
    refine (oh.alloc o2).kept g2 (.inr ?_)
    intro q
    obtain ⟨gs, cs, e, _⟩ := h.atS
    have hs : vs.ownBlock = some gs := by rw [e]; rfl
    exact own_apart (oh.alloc o2) (os2.alloc o2) gs (by rw [q, hs]) hs
  have hlen : (bs ++ [b]).length = bs.length + 1 := by simp
  have low : ∀ j, j < bs.length → (bs ++ [b]).getD j 0 = bs.getD j 0 := fun j hj => by simp [List.getElem?_append_left hj]
  have last : (bs ++ [b]).getD bs.length 0 = b := by simp
  have lowr : ∀ j, j < bs.length → (rs ++ [t]).getD j [] = rs.getD j [] := fun j hj => by
    have : j < rs.length := by rw [h.rl]; exact hj
    simp [List.getElem?_append_left this]
  have lastr : (rs ++ [t]).getD bs.length [] = t := by rw [← h.rl]; simp
  have blt : ∀ j, j < bs.length → bs.getD j 0 < b := fun j hj => Nat.lt_of_lt_of_le (h.row j hj).lt hbb
  refine ⟨by rw [hlen]; simpa using oh3, by rw [hlen]; simpa using os, by simp, by simp [h.rl], ?_, ?_, ?_, hb3⟩
  · intro j hj
    rw [hlen] at hj
    by_cases e : j < bs.length
    · rw [low j e, lowr j e]
      exact row3 _ _ (h1.row j e)
    · obtain rfl : j = bs.length := by omega
      rw [last, lastr]
      exact row3 _ _ hra
  · intro j hj
    rw [hlen] at hj
    by_cases e : j < bs.length
    · rw [low j e]; exact h.ge j e
    · obtain rfl : j = bs.length := by omega
      rw [last]
      exact Nat.le_trans h.be.size hbb
  · intro i j hi hj hne
    rw [hlen] at hi hj
    by_cases ei : i < bs.length
    · by_cases ej : j < bs.length
      · rw [low i ei, low j ej]; exact h.nd i j ei ej hne
      · obtain rfl : j = bs.length := by omega
        rw [low i ei, last]
        exact Nat.ne_of_lt (blt i ei)
    · obtain rfl : i = bs.length := by omega
      have ej : j < bs.length := by omega
      rw [low j ej, last]
      exact Ne.symm (Nat.ne_of_lt (blt j ej))
theorem PI.start (h : Below w.heap.size w wr) (b : Nat) (hbb : w.heap.size ≤ b) (hr : Row wr b (hc h0) 70) :
    PI w ((wr.alloc (.cells #[pt b] 39)).alloc (.cells #[tS []] 9)) (.slice (some ⟨wr.heap.size, 0, none⟩) 1 1) (.slice (some ⟨wr.heap.size + 1, 0, none⟩) 1 1) [b] [[]] [[]] := by
  have b1 := h.alloc h.size (.cells #[pt b] 39)
  refine ⟨?_, ?_, by simp, rfl, ?_, ?_, ?_, b1.alloc b1.size _⟩
  · exact (World.ownsRow_lit wr #[pt b] 1 h.size (by decide) rfl).alloc _
  · have := World.ownsRow_lit (base := w.heap.size) (e := 9) (size := 1) (wr.alloc (.cells #[pt b] 39)) #[tS []] 1 (by simp; have := h.size; omega) (by decide) rfl
    simpa using this
  · intro j hj
    obtain rfl : j = 0 := by simpa using hj
    exact (hr.alloc _).alloc _
  · intro j hj
    obtain rfl : j = 0 := by simpa using hj
    exact hbb
  · intro i j hi hj hne
    simp at hi hj
    omega
end
end Go.Proofs.Ytdncebdlhoogcaa
