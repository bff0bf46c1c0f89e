import Derived.Test.YtpelmacblglhoaaDuq
import Derived.Test.YtpelmacblglhoaaDsu
import Derived.Test.YtpelmacblglhoaaDuv
import Derived.Test.YtpelmacblglhoaaZzbl
import Derived.Test.YtpelmacblglhoaaZzai
import Derived.Test.YtpelmacblglhoaaZzbb
namespace Go.Proofs.Ytpelmacblglhoaa
open Go.RowKit
set_option maxHeartbeats 8000000
set_option maxRecDepth 8000
section
variable {w0 w : World} {K Z : Nat} {s : Ws}
/-- Between two turns. -/
structure LI (w0 : World) (K Z : Nat) (sd : List Sd) (hn c1 c2 : Nat) (T : Nat) (b1 b2 : Array Value) (wr : World) : Prop where
  ex : ∃ s', WI w0 K Z none s' wr ∧ (s'.sd = sd ∧ s'.hn = hn) ∧ s'.f1 + s'.N1 ≤ c1 ∧ s'.f2 + s'.N2 ≤ c2 ∧ (s'.tag T).1 ≠ 0 ∧ (s'.tag (T + 1)).1 ≠ 0
  x1 : wr.heap[T]? = some (.cells b1 40 (0, 0))
  x2 : wr.heap[T + 1]? = some (.cells b2 35 (0, 0))
theorem lists_wi (h : WI w0 K Z none s w) {i : Nat} {x : Sd} (hx : s.sd[i]? = some x) (kind on n : Int) (str : Bs) (vk : Value) (hr1 : s.f1 + s.N1 + 2 ≤ 2 * K) (hr2 : s.f2 + s.N2 + 2 ≤ 2 * K) (hK : K ≤ 10000000) :
    Calls Try.prog 36 #[ptr Z, .agg #[ptr x.D, ptr x.X], .agg #[I kind, I on, I n, S str, vk]] w fun e w' => e = .returned (.bool true) ∧ ∃ s', WI w0 K Z none s' w' ∧ s'.sd = s.sd ∧ s'.hn = s.hn := by
  have hz1 : ((w.alloc (.cells #[ptr x.D, ptr x.X] 40)).alloc (.cells #[I kind, I on, I n, S str, vk] 35)).heap[w.heap.size]? = some (.cells #[ptr x.D, ptr x.X] 40 (0, 0)) := (heap_alloc_old _ _ (by simp)).trans (heap_alloc_new _ _)
  have hz2 : ((w.alloc (.cells #[ptr x.D, ptr x.X] 40)).alloc (.cells #[I kind, I on, I n, S str, vk] 35)).heap[w.heap.size + 1]? = some (.cells #[I kind, I on, I n, S str, vk] 35 (0, 0)) := by
    have := heap_alloc_new (w.alloc (.cells #[ptr x.D, ptr x.X] 40)) (.cells #[I kind, I on, I n, S str, vk] 35)
    simpa using this
  have ba : Below w.heap.size w ((w.alloc (.cells #[ptr x.D, ptr x.X] 40)).alloc (.cells #[I kind, I on, I n, S str, vk] 35)) := ((Below.refl _ _).alloc (Nat.le_refl _) _).alloc (by simp) _
  have HI := hide (show LI w0 K Z s.sd s.hn (s.f1 + s.N1 + 0) (s.f2 + s.N2 + 0) w.heap.size #[ptr x.D, ptr x.X] #[I kind, I on, I n, S str, vk] ((w.alloc (.cells #[ptr x.D, ptr x.X] 40)).alloc (.cells #[I kind, I on, I n, S str, vk] 35)) from
    ⟨⟨_, (h.ext (7, 5)).below ba, ⟨rfl, rfl⟩, by simp only; omega, by simp only; omega, by show (ext s.tag w.heap.size (7, 5) w.heap.size).1 ≠ 0; rw [ext_new (Nat.le_refl _)]; simp, by show (ext s.tag w.heap.size (7, 5) (w.heap.size + 1)).1 ≠ 0; rw [ext_new (by omega)]; simp⟩, hz1, hz2⟩)
  have HX := hide hx
  clear h hx hz1 hz2 ba
  by_cases hk6 : kind = 6
  · have q6 : (kind == 6) = true := by simpa using hk6
    clear hk6
    go_enter Try.func36, Try.ntmps36
    go_wp2
    go_loopw [7] (fun y wr => ∃ t : Nat, t ≤ 2 ∧ y = .int .i64 t ∧ LI w0 K Z s.sd s.hn (s.f1 + s.N1 + 0) (s.f2 + s.N2 + t) w.heap.size #[ptr x.D, ptr x.X] #[I kind, I on, I n, S str, vk] wr) (fun y _ => 2 - (Go.RowKit.intOf y).toNat)
    case atStart => exact ⟨0, by omega, rfl, unhide HI⟩
    case round =>
      clear HI
      obtain ⟨t, ht, rfl, hI⟩ := hrel
      obtain ⟨⟨s', hw, hsd, hc1, hc2, ht4, ht5⟩, hb1, hb2⟩ := hI
      have y0 : wr.cell? ⟨w.heap.size, 0, none⟩ = some (ptr x.D) := cell_of_row _ _ 0 _ 40 (0, 0) hb1
      have y5 : wr.cell? ⟨w.heap.size + 1, 0, none⟩ = some (I kind) := cell_of_row _ _ 0 _ 35 (0, 0) hb2
      have l1 := lt_of_row hb1
      have l2 := lt_of_row hb2
      by_cases hlt : t < 2
      · have hlt' : (t : Int) < 2 := by omega
        have o := hw.so i x (by rw [hsd.1]; exact unhide HX) (by simp)
        have H1 := hide (pending_any o.dat o.ok)
        have H2 := hide (fun (W : World) (b1 : Below wr.heap.size wr W) => rPending_any (o.rat.below b1) (by rw [o.rel.l]; exact o.ok.len.1) (by rw [o.rel.l]; exact o.ok.len.2))
        have HO := hide o
        have HS := hide (And.intro hw (And.intro hsd (And.intro hc1 (And.intro hc2 (And.intro ht4 (And.intro ht5 (And.intro hb1 hb2)))))))
        clear hw hsd hc1 hc2 ht4 ht5 hb1 hb2 o
        go_wp2_with fail
        refine (unhide H1).mono ?_
        rintro e w1 ⟨V, rfl, r1, n1, b1⟩
        obtain ⟨p1, c1, e1, g1⟩ := Wls.of r1
        have y1 : w1.cell? ⟨w.heap.size, 1, none⟩ = some (ptr x.X) := (b1.cell (p := ⟨w.heap.size, 1, none⟩) l1).trans (cell_of_row _ _ 1 _ 40 (0, 0) (unhide HS).2.2.2.2.2.2.1)
        have l1b := Nat.lt_of_lt_of_le l1 b1.size
        have HR2 := hide (unhide H2 w1 b1)
        have HF1 := hide (And.intro r1 (And.intro n1 (And.intro b1 g1)))
        subst e1
        clear r1 n1 b1 g1 H1 H2
        go_wp2_with fail
        refine (unhide HR2).mono ?_
        rintro e w2 ⟨V2, rfl, r2, n2, b2⟩
        obtain ⟨r1, n1, b1, g1⟩ := unhide HF1
        have o := unhide HO
        rw [show pndR x.r x.r.l.length = x.r.pend from rfl, o.rel.pend o.ok] at r2
        obtain ⟨p2, c2, e2, g2⟩ := Wls.of r2
        have few := o.ok.few
        have H3 := hide (sameWrites_any p1 p2 x.d.ws.length c1 c2 x.d.ws w2 (g1.below b2) g2 (by omega))
        have HF2 := hide (And.intro r1 (And.intro n1 (And.intro b1 b2)))
        subst e2
        clear r1 n1 b1 g1 r2 n2 b2 g2 HF1 HR2 o
        go_wp2_with fail
        refine (unhide H3).mono ?_
        rintro e w3 ⟨rfl, b3⟩
        obtain ⟨r1, n1, b1, b2⟩ := unhide HF2
        obtain ⟨hw, hsd, hc1, hc2, ht4, ht5, hb1, hb2⟩ := unhide HS
        have b13 : Below wr.heap.size wr w3 := (b1.trans (b2.mono b1.size)).trans (b3.mono (Nat.le_trans b1.size b2.size))
        have b12 : Below w1.heap.size w1 w3 := b2.trans (b3.mono b2.size)
        have H4 := hide (writes_wi ((hw.ext (7, 0)).below b13) (owns_below r1 b12) (fun k hk => by show (ext s'.tag wr.heap.size (7, 0) k).1 = 7; rw [ext_new (n1 k hk)]) (by omega) (by simp only; omega) hK)
        have z4 := (b13.block _ (lt_of_row hb1)).trans hb1
        have z5 := (b13.block _ (lt_of_row hb2)).trans hb2
        have HZ := hide (And.intro z4 (And.intro z5 (And.intro hsd (And.intro hc1 (And.intro hc2 (And.intro ht4 ht5))))))
        clear r1 n1 b1 b2 b3 hw hsd hc1 hc2 ht4 ht5 hb1 hb2 b13 b12 HF2 HS z4 z5 HO H3
        go_wp2_with fail
        refine (unhide H4).mono ?_
        rintro e w4 ⟨rfl, s4, hw4, hsd4, hcc, hcq, hkp, hh4⟩
        obtain ⟨z4, z5, hsd, hc1, hc2, ht4, ht5⟩ := unhide HZ
        have k4 := hkp _ (lt_of_row z4) (by show (ext s'.tag wr.heap.size (7, 0) w.heap.size).1 ≠ 0; rw [ext_old l1]; exact ht4)
        have k5 := hkp _ (lt_of_row z5) (by show (ext s'.tag wr.heap.size (7, 0) (w.heap.size + 1)).1 ≠ 0; rw [ext_old l2]; exact ht5)
        have HN := hide (show LI w0 K Z s.sd s.hn (s.f1 + s.N1 + 0) (s.f2 + s.N2 + (t + 1)) w.heap.size #[ptr x.D, ptr x.X] #[I kind, I on, I n, S str, vk] w4 from ⟨⟨s4, hw4, ⟨hsd4.trans hsd.1, hh4.trans hsd.2⟩, by omega, by omega, k4.1, k5.1⟩, k4.2.trans z4, k5.2.trans z5⟩)
        clear hw4 hsd4 hcc hcq hkp hh4 z4 z5 hsd hc1 hc2 ht4 ht5 k4 k5 HZ H4
        go_wp2
        refine ⟨⟨t + 1, by omega, by go_num, unhide HN⟩, ?_⟩
        simp [Go.RowKit.intOf]; omega
      · have hlt' : ¬ (t : Int) < 2 := by omega
        have HF := hide (show ∃ s', WI w0 K Z none s' wr ∧ s'.sd = s.sd ∧ s'.hn = s.hn from ⟨s', hw, hsd.1, hsd.2⟩)
        clear hw hsd hc1 hc2 ht4 ht5 hb1 hb2
        go_wp2
        go_ret
        exact ⟨rfl, unhide HF⟩
  · have q6 : (kind == 6) = false := by simpa using hk6
    clear hk6
    go_enter Try.func36, Try.ntmps36
    go_wp2
    go_loopw [7] (fun y wr => ∃ t : Nat, t ≤ 2 ∧ y = .int .i64 t ∧ LI w0 K Z s.sd s.hn (s.f1 + s.N1 + t) (s.f2 + s.N2 + 0) w.heap.size #[ptr x.D, ptr x.X] #[I kind, I on, I n, S str, vk] wr) (fun y _ => 2 - (Go.RowKit.intOf y).toNat)
    case atStart => exact ⟨0, by omega, rfl, unhide HI⟩
    case round =>
      clear HI
      obtain ⟨t, ht, rfl, hI⟩ := hrel
      obtain ⟨⟨s', hw, hsd, hc1, hc2, ht4, ht5⟩, hb1, hb2⟩ := hI
      have y0 : wr.cell? ⟨w.heap.size, 0, none⟩ = some (ptr x.D) := cell_of_row _ _ 0 _ 40 (0, 0) hb1
      have y5 : wr.cell? ⟨w.heap.size + 1, 0, none⟩ = some (I kind) := cell_of_row _ _ 0 _ 35 (0, 0) hb2
      have l1 := lt_of_row hb1
      have l2 := lt_of_row hb2
      by_cases hlt : t < 2
      · have hlt' : (t : Int) < 2 := by omega
        have o := hw.so i x (by rw [hsd.1]; exact unhide HX) (by simp)
        have H1 := hide (blocks_any o.dat (fun y hy => by have := o.ok.sz y hy; omega) (by have := o.ok.len; omega))
        have H2 := hide (fun (W : World) (b1 : Below wr.heap.size wr W) => rBlocks_any (o.rat.below b1) (by rw [o.rel.l]; exact o.ok.len.1) (by rw [o.rel.l]; exact o.ok.len.2))
        have HO := hide o
        have HS := hide (And.intro hw (And.intro hsd (And.intro hc1 (And.intro hc2 (And.intro ht4 (And.intro ht5 (And.intro hb1 hb2)))))))
        clear hw hsd hc1 hc2 ht4 ht5 hb1 hb2 o
        go_wp2_with fail
        refine (unhide H1).mono ?_
        rintro e w1 ⟨V, rfl, r1, n1, b1⟩
        obtain ⟨p1, c1, e1, g1, -⟩ := Sts.of r1
        have y1 : w1.cell? ⟨w.heap.size, 1, none⟩ = some (ptr x.X) := (b1.cell (p := ⟨w.heap.size, 1, none⟩) l1).trans (cell_of_row _ _ 1 _ 40 (0, 0) (unhide HS).2.2.2.2.2.2.1)
        have l1b := Nat.lt_of_lt_of_le l1 b1.size
        have HR2 := hide (unhide H2 w1 b1)
        have HF1 := hide (And.intro r1 (And.intro n1 (And.intro b1 g1)))
        subst e1
        clear r1 n1 b1 g1 H1 H2
        go_wp2_with fail
        refine (unhide HR2).mono ?_
        rintro e w2 ⟨V2, rfl, r2, n2, b2⟩
        obtain ⟨r1, n1, b1, g1⟩ := unhide HF1
        have o := unhide HO
        rw [o.rel.l] at r2
        obtain ⟨p2, c2, e2, g2, -⟩ := Sts.of r2
        have few := o.ok.len.2
        have H3 := hide (same_any p1 p2 x.d.last.length c1 c2 x.d.last w2 (g1.below b2) g2 (by omega))
        have HF2 := hide (And.intro r1 (And.intro n1 (And.intro b1 b2)))
        subst e2
        clear r1 n1 b1 g1 r2 n2 b2 g2 HF1 HR2 o
        go_wp2_with fail
        refine (unhide H3).mono ?_
        rintro e w3 ⟨rfl, b3⟩
        obtain ⟨r1, n1, b1, b2⟩ := unhide HF2
        obtain ⟨hw, hsd, hc1, hc2, ht4, ht5, hb1, hb2⟩ := unhide HS
        have b13 : Below wr.heap.size wr w3 := (b1.trans (b2.mono b1.size)).trans (b3.mono (Nat.le_trans b1.size b2.size))
        have b12 : Below w1.heap.size w1 w3 := b2.trans (b3.mono b2.size)
        have H4 := hide (blocks_wi ((hw.ext (7, 0)).below b13) (owns_below r1 b12) (fun k hk => by show (ext s'.tag wr.heap.size (7, 0) k).1 = 7; rw [ext_new (n1 k hk)]) (by omega) (by simp only; omega) hK)
        have z4 := (b13.block _ (lt_of_row hb1)).trans hb1
        have z5 := (b13.block _ (lt_of_row hb2)).trans hb2
        have HZ := hide (And.intro z4 (And.intro z5 (And.intro hsd (And.intro hc1 (And.intro hc2 (And.intro ht4 ht5))))))
        clear r1 n1 b1 b2 b3 hw hsd hc1 hc2 ht4 ht5 hb1 hb2 b13 b12 HF2 HS z4 z5 HO H3
        go_wp2_with fail
        refine (unhide H4).mono ?_
        rintro e w4 ⟨rfl, s4, hw4, hsd4, hcc, hcq, hkp, hh4⟩
        obtain ⟨z4, z5, hsd, hc1, hc2, ht4, ht5⟩ := unhide HZ
        have k4 := hkp _ (lt_of_row z4) (by show (ext s'.tag wr.heap.size (7, 0) w.heap.size).1 ≠ 0; rw [ext_old l1]; exact ht4)
        have k5 := hkp _ (lt_of_row z5) (by show (ext s'.tag wr.heap.size (7, 0) (w.heap.size + 1)).1 ≠ 0; rw [ext_old l2]; exact ht5)
        have HN := hide (show LI w0 K Z s.sd s.hn (s.f1 + s.N1 + (t + 1)) (s.f2 + s.N2 + 0) w.heap.size #[ptr x.D, ptr x.X] #[I kind, I on, I n, S str, vk] w4 from ⟨⟨s4, hw4, ⟨hsd4.trans hsd.1, hh4.trans hsd.2⟩, by omega, by omega, k4.1, k5.1⟩, k4.2.trans z4, k5.2.trans z5⟩)
        clear hw4 hsd4 hcc hcq hkp hh4 z4 z5 hsd hc1 hc2 ht4 ht5 k4 k5 HZ H4
        go_wp2
        refine ⟨⟨t + 1, by omega, by go_num, unhide HN⟩, ?_⟩
        simp [Go.RowKit.intOf]; omega
      · have hlt' : ¬ (t : Int) < 2 := by omega
        have HF := hide (show ∃ s', WI w0 K Z none s' wr ∧ s'.sd = s.sd ∧ s'.hn = s.hn from ⟨s', hw, hsd.1, hsd.2⟩)
        clear hw hsd hc1 hc2 ht4 ht5 hb1 hb2
        go_wp2
        go_ret
        exact ⟨rfl, unhide HF⟩
end
end Go.Proofs.Ytpelmacblglhoaa
namespace Go.Proofs.Ytpelmacblglhoaa
open Go.RowKit
set_option maxHeartbeats 8000000
set_option maxRecDepth 8000
section
variable {w0 w w2 w4 : World} {K Z j : Nat} {s : Ws} {x : Sd}
/-- A disk and the document's have done a step. -/
theorem WI.done (h : WI w0 K Z none s w2) (hx : s.sd[j]? = some x) {K' : Nat} (so : SOk K' s.tag j x w2) {vw' : Value} {d' : Ds} {r' : Rd} (ho : Only (fun k => Of x.D x.vw x.vl k ∨ OfR x.X x.ul x.ui x.up k) w2 w4)
    (hd : DAt x.D d' vw' x.vl w4) (hr : RAt x.X r' x.ul x.ui x.up w4) (ok : Ok d') (rel : Rel d' r') (ac : 0 ≤ d'.acts ∧ d'.acts ≤ K) (hv : ∀ k, vw'.ownBlock = some k → x.vw.ownBlock = some k ∨ w2.heap.size ≤ k) :
    ∃ s', WI w0 K Z none s' w4 ∧ s'.hn = s.hn := by
  have hA := ((h.open j).ext (1, j)).only ho (fun k q l => by
    show (Go.Proofs.Ytpelmacblglhoaa.ext s.tag w2.heap.size (1, j) k).1 = 7 ∨ ∃ i, some j = some i ∧ (Go.Proofs.Ytpelmacblglhoaa.ext s.tag w2.heap.size (1, j) k = (1, i) ∨ Go.Proofs.Ytpelmacblglhoaa.ext s.tag w2.heap.size (1, j) k = (2, i))
    rw [ext_old l]
    rcases q with q | q
    · exact .inr ⟨j, rfl, .inl (so.td k q)⟩
    · exact .inr ⟨j, rfl, .inr (so.tr k q)⟩)
  refine ⟨_, hA.close (x' := { x with vw := vw', d := d', r := r' }) hx rfl rfl ⟨hd, hr, ok, rel, ac, fun k hk => ?_, fun k hk => ?_⟩, rfl⟩
  · show Go.Proofs.Ytpelmacblglhoaa.ext s.tag w2.heap.size (1, j) k = (1, j)
    by_cases hl : k < w2.heap.size
    · rw [ext_old hl]
      rcases hk with q | q | q
      · exact so.td k (.inl q)
      · rcases hv k q with a | a
        · exact so.td k (.inr (.inl a))
        · omega
      · exact so.td k (.inr (.inr q))
    · exact ext_new (by omega)
  · show Go.Proofs.Ytpelmacblglhoaa.ext s.tag w2.heap.size (1, j) k = (2, j)
    rw [ext_old (so.rat.old k hk)]
    exact so.tr k hk
theorem SOk.ap {K' : Nat} {tag : Nat → Tg} (so : SOk K' tag j x w) : ∀ k, Of x.D x.vw x.vl k → ¬ OfR x.X x.ul x.ui x.up k := fun k a b => by
  have := so.td k a
  rw [so.tr k b] at this
  exact absurd this (tg_ne (by decide))
/-- A disk that did a step keeps what it had behind one of the document's. -/
theorem SOk.keepD {K' : Nat} {tag : Nat → Tg} (so : SOk K' tag j x w) {w3 : World} {vw' : Value} {d' : Ds} (hd : DAt x.D d' vw' x.vl w3) (hv : ∀ k, vw'.ownBlock = some k → x.vw.ownBlock = some k ∨ w.heap.size ≤ k) (ho : Only (OfR x.X x.ul x.ui x.up) w3 w4) : DAt x.D d' vw' x.vl w4 :=
  hd.only ho (fun k hk q => by
    rcases hk with a | a | a
    · exact so.ap k (.inl a) q
    · rcases hv k a with b | b
      · exact so.ap k (.inr (.inl b)) q
      · have := so.rat.old k q; omega
    · exact so.ap k (.inr (.inr a)) q)
/-- The state at the switch. -/
structure PL (w0 : World) (K K' Z : Nat) (s : Ws) (j : Nat) (x : Sd) (T F : Nat) (cs : Array Value) (w : World) : Prop where
  wi : WI w0 K Z none s w
  hx : s.sd[j]? = some x
  so : SOk K' s.tag j x w
  bT : w.heap[T]? = some (.cells cs 35 (0, 0))
  bF : w.heap[F]? = some (.cells #[ptr x.D, ptr x.X] 40 (0, 0))
  tT : s.tag T = (7, 5)
  tF : s.tag F = (7, 5)
end
end Go.Proofs.Ytpelmacblglhoaa
namespace Go.Proofs.Ytpelmacblglhoaa
open Go.RowKit
set_option maxHeartbeats 16000000
set_option maxRecDepth 16000
theorem below_drewN (w : World) (m : Nat) : Below w.heap.size w (w.drewN m) := ⟨rfl, rfl, rfl, Nat.le_refl _, fun _ _ => rfl⟩
theorem PL.keep {w0 w w3 : World} {K K' Z j T F : Nat} {s : Ws} {x : Sd} {cs : Array Value} {Q : Nat → Prop} (h : PL w0 K K' Z s j x T F cs w) (ho : Only Q w w3) (hq : ∀ k, Q k → Of x.D x.vw x.vl k ∨ OfR x.X x.ul x.ui x.up k) : w3.heap[T]? = w.heap[T]? ∧ w3.heap[F]? = w.heap[F]? := by
  have key : ∀ k, s.tag k = (7, 5) → ¬ Q k := fun k ht q => by
    rcases hq k q with a | a
    · rw [h.so.td k a] at ht; exact absurd ht (tg_ne (by decide))
    · rw [h.so.tr k a] at ht; exact absurd ht (tg_ne (by decide))
  exact ⟨ho.block T (lt_of_row h.bT) (key T h.tT), ho.block F (lt_of_row h.bF) (key F h.tF)⟩
theorem PL.below {w0 w w3 : World} {K K' Z j T F : Nat} {s : Ws} {x : Sd} {cs : Array Value} (h : PL w0 K K' Z s j x T F cs w) (b : Below w.heap.size w w3) : PL w0 K K' Z s j x T F cs w3 :=
  ⟨h.wi.below b, h.hx, h.so.only (Q := fun _ => False) (Only.of_below b) (fun _ q => q.elim), (b.block _ (lt_of_row h.bT)).trans h.bT, (b.block _ (lt_of_row h.bF)).trans h.bF, h.tT, h.tF⟩
theorem Rel.leftb {d : Ds} {r : Rd} (h : Rel d r) (ok : Ok d) : 0 ≤ r.left ∧ r.left ≤ 9223372036854775807 := by
  rw [h.left]
  split
  · exact ⟨by omega, by omega⟩
  · exact ok.fuse
end Go.Proofs.Ytpelmacblglhoaa
