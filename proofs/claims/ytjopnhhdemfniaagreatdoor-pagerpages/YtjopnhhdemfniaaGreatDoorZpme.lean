import Derived.Test.YtjopnhhdemfniaaGreatDoorPmd
import Derived.Test.YtjopnhhdemfniaaGreatDoorZpic
import Derived.Test.YtjopnhhdemfniaaGreatDoorZpim
namespace Go.Proofs.YtjopnhhdemfniaaGreatDoor
open Go.RowKit
set_option maxHeartbeats 8000000
set_option maxRecDepth 8000
theorem info22 : (Tryz.prog.info? 22).map (fun i => (i.zero, i.size, i.bytes)) = some (some (.slice none 0 0), 1, 24) := by kernel_rfl
/-- A list that came out, what it must be, and what both read. -/
abbrev En := Value × Value × List Int
/-- The law's book: lists that are untouched so far. -/
structure Bok (B b : Nat) (E : List En) (vF vW : Value) (w : World) : Prop where
  blk : w.heap[b]? = some (.cells #[vF, vW, .slice none 0 0, .slice none 0 0, .slice none 0 0] 32 (0, 0))
  f : w.ownsRow 0 22 1 vF E.length (E.map (·.1))
  s : w.ownsRow 0 22 1 vW E.length (E.map (·.2.1))
  dj : ∀ k, vF.ownBlock = some k → vW.ownBlock ≠ some k
  fr : ∀ x ∈ E, w.ownsRow 0 3 1 x.1 x.2.2.length (x.2.2.map fun z => I z)
  wa : ∀ x ∈ E, w.ownsRow 0 3 1 x.2.1 x.2.2.length (x.2.2.map fun z => I z)
  ap : E.Pairwise fun x y => ∀ k, x.1.ownBlock = some k → y.1.ownBlock ≠ some k
  few : ∀ x ∈ E, x.2.2.length ≤ 1000
  lb : B ≤ b ∧ B ≤ w.heap.size
  lf : ∀ k, vF.ownBlock = some k → B ≤ k
  ls : ∀ k, vW.ownBlock = some k → B ≤ k
  le : ∀ x ∈ E, ∀ k, x.1.ownBlock = some k → B ≤ k
variable {B b : Nat} {E : List En} {vF vW : Value} {w w' : World}
theorem Bok.below (h : Bok B b E vF vW w) (q : Below w.heap.size w w') : Bok B b E vF vW w' :=
  ⟨(q.block _ (lt_of_row h.blk)).trans h.blk, owns_below h.f q, owns_below h.s q, h.dj, fun x hx => owns_below (h.fr x hx) q, fun x hx => owns_below (h.wa x hx) q, h.ap, h.few, ⟨h.lb.1, Nat.le_trans h.lb.2 q.size⟩, h.lf, h.ls, h.le⟩
theorem Bok.new (w : World) : Bok w.heap.size w.heap.size [] (.slice none 0 0) (.slice none 0 0) (w.alloc (.cells #[.slice none 0 0, .slice none 0 0, .slice none 0 0, .slice none 0 0, .slice none 0 0] 32)) :=
  ⟨heap_alloc_new w _, owns_nil _ _ _, owns_nil _ _ _, (fun _ q => nomatch q), (fun _ q => nomatch q), (fun _ q => nomatch q), .nil, (fun _ q => nomatch q), ⟨Nat.le_refl _, by simp⟩, (fun _ q => nomatch q), (fun _ q => nomatch q), (fun _ q => nomatch q)⟩
/-- What a call may turn of the book's. -/
def BkOf (b : Nat) (vF vW : Value) (k : Nat) : Prop := k = b ∨ vF.ownBlock = some k ∨ vW.ownBlock = some k
theorem bk_ty (h : Bok B b E vF vW w) {k : Nat} (hk : BkOf b vF vW k) : ∃ cs t, w.heap[k]? = some (.cells cs t (0, 0)) ∧ (t = 32 ∨ t = 22) := by
  rcases hk with rfl | hk | hk
  · exact ⟨_, _, h.blk, .inl rfl⟩
  · obtain ⟨cs, q⟩ := owns_lt h.f k hk
    exact ⟨_, _, q, .inr rfl⟩
  · obtain ⟨cs, q⟩ := owns_lt h.s k hk
    exact ⟨_, _, q, .inr rfl⟩
theorem bk_no3 (h : Bok B b E vF vW w) {v : Value} {n : Nat} {xs : List Value} (hv : w.ownsRow 0 3 1 v n xs) : ∀ k, v.ownBlock = some k → ¬ BkOf b vF vW k := fun k hk q => by
  obtain ⟨cs, t, e, ht⟩ := bk_ty h q
  obtain ⟨cs2, e2⟩ := owns_lt hv k hk
  rw [e2] at e
  cases e
  rcases ht with r | r <;> exact absurd r (by decide)
theorem takes_any (h : Bok B b E vF vW w) (v1 v2 : Value) (l : List Int) (h1 : w.ownsRow 0 3 1 v1 l.length (l.map fun z => I z)) (h2 : w.ownsRow 0 3 1 v2 l.length (l.map fun z => I z)) (hap : ∀ x ∈ E, ∀ k, x.1.ownBlock = some k → v1.ownBlock ≠ some k) (hlo : ∀ k, v1.ownBlock = some k → B ≤ k) (hfew : l.length ≤ 1000) (hE : E.length ≤ 1000000) :
    Calls Tryz.prog 65 #[ptr b, v1, v2] w fun e w' => e = .returned (.tuple #[]) ∧ ∃ vF' vW', Bok B b (E ++ [(v1, v2, l)]) vF' vW' w' ∧ Only (BkOf b vF vW) w w' := by
  obtain ⟨p1, c1, e1⟩ := owns_form h1
  obtain ⟨p2, c2, e2⟩ := owns_form h2
  subst e1 e2
  obtain ⟨qF, cF, eF⟩ := owns_form h.f
  obtain ⟨qW, cW, eW⟩ := owns_form h.s
  subst eF eW
  have hc := fun j => cell_of_row w b j _ 32 (0, 0) h.blk
  have d0 : w.cell? ⟨b, 0, none⟩ = some (.slice qF E.length cF) := hc 0
  have f0 := frz h.blk 0
  have hbl := lt_of_row h.blk
  have HH := hide h
  have H1 := hide h1
  have H2 := hide h2
  have HAP := hide hap
  have HLO := hide hlo
  have HFW := hide hfew
  have HE := hide hE
  clear h1 h2 hap hlo hfew hE hc h
  generalize hEl : E.length = el at *
  have HEL := hide hEl
  clear hEl
  go_enter Tryz.func65, Tryz.ntmps65
  go_wp2_with (at_builtin; refine push_own 30 22 _ 1 24 Tryz.underlying30 info22 rfl (by decide) rfl (.tmp 10) (.tmp 12) rfl (.slice qF el cF) el (E.map (·.1)) (by rfl) w (by have := (unhide HH).f; rw [unhide HEL] at this; exact this) [.slice p1 l.length c1] rfl (by simp [Value.oneCell']) (by rfl) (by have := unhide HE; omega) (by have := unhide HE; omega) ?_)
  intro p3 c3 w3 r3 o3 n3
  have hb3 : w3.heap[b]? = some (.cells #[.slice qF el cF, .slice qW el cW, .slice none 0 0, .slice none 0 0, .slice none 0 0] 32 (0, 0)) := (o3.block b hbl (fun e => by
    obtain ⟨cs, q⟩ := owns_lt (unhide HH).f b e
    rw [(unhide HH).blk] at q
    cases q)).trans (unhide HH).blk
  have hs3 : w3.ownsRow 0 22 1 (.slice qW el cW) el (E.map (·.2.1)) := owns_only (by have := (unhide HH).s; rw [unhide HEL] at this; exact this) o3 (fun k hk e => (unhide HH).dj k e hk)
  have x0 := cell_of_row w3 b 0 _ 32 (0, 0) hb3
  have y0 := frz hb3 0
  have hbl3 := lt_of_row hb3
  have hb4 : (w3.setCell ⟨b, 0, none⟩ (.slice p3 (el + 1) c3)).heap[b]? = some (.cells #[.slice p3 (el + 1) c3, .slice qW el cW, .slice none 0 0, .slice none 0 0, .slice none 0 0] 32 (0, 0)) := heap_setCell_same w3 b 0 _ 32 _ hb3
  have o4 := Only.setCell w3 ⟨b, 0, none⟩ (.slice p3 (el + 1) c3)
  have hs4 : (w3.setCell ⟨b, 0, none⟩ (.slice p3 (el + 1) c3)).ownsRow 0 22 1 (.slice qW el cW) el (E.map (·.2.1)) := owns_only hs3 o4 (fun k hk e => by
    obtain ⟨cs, q⟩ := owns_lt hs3 k hk
    rw [show k = b from e, hb3] at q
    cases q)
  have r4 : (w3.setCell ⟨b, 0, none⟩ (.slice p3 (el + 1) c3)).ownsRow 0 22 1 (.slice p3 (el + 1) c3) (el + 1) (E.map (·.1) ++ [.slice p1 l.length c1]) := owns_only r3 o4 (fun k hk e => by
    obtain ⟨cs, q⟩ := owns_lt r3 k hk
    rw [show k = b from e, hb3] at q
    cases q)
  have HO4 := hide ((o3.mono (Q := BkOf b (.slice qF el cF) (.slice qW el cW)) (fun k _ q => .inr (.inl q))).trans o4 (fun _ _ q => .inl q))
  have hdj4 : ∀ k, (Value.slice p3 (el + 1) c3).ownBlock = some k → (Value.slice qW el cW).ownBlock ≠ some k := fun k hk e => by
    rcases n3 k hk with r | r
    · exact (unhide HH).dj k r e
    · have := owns_blk (unhide HH).s k e
      omega
  have HDJ4 := hide hdj4
  have HN3 := hide n3
  have z1 := cell_of_row _ b 1 _ 32 (0, 0) hb4
  have u1 := frz hb4 1
  have hbl4 := lt_of_row hb4
  have HB4 := hide hb4
  have HS4 := hide hs4
  have HR4 := hide r4
  clear r3 o3 n3 hs3 hb3 hb4 o4 hs4 r4 hdj4 d0 f0
  generalize hW4 : w3.setCell ⟨b, 0, none⟩ (.slice p3 (el + 1) c3) = W4 at *
  have HW4 := hide hW4
  clear hW4
  go_upto_region 1 with fail
  rw [unhide HW4]
  clear x0 y0 hbl3 HW4
  go_wp2_with (at_builtin; refine push_own 30 22 _ 1 24 Tryz.underlying30 info22 rfl (by decide) rfl (.tmp 20) (.tmp 22) rfl (.slice qW el cW) el (E.map (·.2.1)) (by rfl) W4 (unhide HS4) [.slice p2 l.length c2] rfl (by simp [Value.oneCell']) (by rfl) (by have := unhide HE; omega) (by have := unhide HE; omega) ?_)
  intro p5 c5 w5 r5 o5 n5
  have hb5 : w5.heap[b]? = some (.cells #[.slice p3 (el + 1) c3, .slice qW el cW, .slice none 0 0, .slice none 0 0, .slice none 0 0] 32 (0, 0)) := (o5.block b hbl4 (fun e => by
    obtain ⟨cs, q⟩ := owns_lt (unhide HS4) b e
    rw [unhide HB4] at q
    cases q)).trans (unhide HB4)
  have r45 := owns_only (unhide HR4) o5 (fun k hk e => unhide HDJ4 k hk e)
  have x1 := cell_of_row w5 b 1 _ 32 (0, 0) hb5
  have y1 := frz hb5 1
  have hbl5 := lt_of_row hb5
  have hb6 : (w5.setCell ⟨b, 1, none⟩ (.slice p5 (el + 1) c5)).heap[b]? = some (.cells #[.slice p3 (el + 1) c3, .slice p5 (el + 1) c5, .slice none 0 0, .slice none 0 0, .slice none 0 0] 32 (0, 0)) := heap_setCell_same w5 b 1 _ 32 _ hb5
  have o6 := Only.setCell w5 ⟨b, 1, none⟩ (.slice p5 (el + 1) c5)
  have r46 := owns_only r45 o6 (fun k hk e => by
    obtain ⟨cs, q⟩ := owns_lt r45 k hk
    rw [show k = b from e, hb5] at q
    cases q)
  have r56 := owns_only r5 o6 (fun k hk e => by
    obtain ⟨cs, q⟩ := owns_lt r5 k hk
    rw [show k = b from e, hb5] at q
    cases q)
  have oo : Only (BkOf b (.slice qF el cF) (.slice qW el cW)) w (w5.setCell ⟨b, 1, none⟩ (.slice p5 (el + 1) c5)) := ((unhide HO4).trans o5 (fun k _ q => .inr (.inr q))).trans o6 (fun k _ q => .inl q)
  have hdj : ∀ k, (Value.slice p3 (el + 1) c3).ownBlock = some k → (Value.slice p5 (el + 1) c5).ownBlock ≠ some k := fun k hk e => by
    rcases n5 k e with r | r
    · exact unhide HDJ4 k hk r
    · have := owns_blk (unhide HR4) k hk
      omega
  have hlF : ∀ k, (Value.slice p3 (el + 1) c3).ownBlock = some k → B ≤ k := fun k hk => by
    rcases unhide HN3 k hk with r | r
    · exact (unhide HH).lf k r
    · exact Nat.le_trans (unhide HH).lb.2 r
  have hlW : ∀ k, (Value.slice p5 (el + 1) c5).ownBlock = some k → B ≤ k := fun k hk => by
    rcases n5 k hk with r | r
    · exact (unhide HH).ls k r
    · exact Nat.le_trans (Nat.le_trans (unhide HH).lb.2 (unhide HO4).size) r
  have HFIN := hide (show Bok B b (E ++ [(.slice p1 l.length c1, .slice p2 l.length c2, l)]) (.slice p3 (el + 1) c3) (.slice p5 (el + 1) c5) (w5.setCell ⟨b, 1, none⟩ (.slice p5 (el + 1) c5)) from by
    have hk3 : ∀ {v : Value} {n : Nat} {xs : List Value}, w.ownsRow 0 3 1 v n xs → (w5.setCell ⟨b, 1, none⟩ (.slice p5 (el + 1) c5)).ownsRow 0 3 1 v n xs := fun hv => owns_only hv oo (bk_no3 (unhide HH) hv)
    refine ⟨hb6, ?_, ?_, hdj, ?_, ?_, ?_, ?_, ⟨(unhide HH).lb.1, Nat.le_trans (unhide HH).lb.2 oo.size⟩, hlF, hlW, ?_⟩
    · rw [List.length_append, unhide HEL, List.map_append]; exact r46
    · rw [List.length_append, unhide HEL, List.map_append]; exact r56
    · intro x hx
      rcases List.mem_append.1 hx with q | q
      · exact hk3 ((unhide HH).fr x q)
      · rw [List.mem_singleton.1 q]; exact hk3 (unhide H1)
    · intro x hx
      rcases List.mem_append.1 hx with q | q
      · exact hk3 ((unhide HH).wa x q)
      · rw [List.mem_singleton.1 q]; exact hk3 (unhide H2)
    · refine List.pairwise_append.2 ⟨(unhide HH).ap, List.pairwise_singleton _ _, fun x hx y hy => ?_⟩
      rw [List.mem_singleton.1 hy]
      exact unhide HAP x hx
    · intro x hx
      rcases List.mem_append.1 hx with q | q
      · exact (unhide HH).few x q
      · rw [List.mem_singleton.1 q]; exact unhide HFW
    · intro x hx
      rcases List.mem_append.1 hx with q | q
      · exact (unhide HH).le x q
      · rw [List.mem_singleton.1 q]; exact unhide HLO)
  have HOO := hide oo
  clear r5 o5 n5 hb5 r45 hb6 o6 r46 r56 oo hdj hlF hlW
  go_wp2
  go_end0
  exact ⟨rfl, _, _, unhide HFIN, unhide HOO⟩
end Go.Proofs.YtjopnhhdemfniaaGreatDoor
namespace Go.Proofs.YtjopnhhdemfniaaGreatDoor
open Go.RowKit
set_option maxHeartbeats 8000000
set_option maxRecDepth 8000
variable {B b : Nat} {E : List En} {vF vW : Value} {w w' : World}
theorem prp_few (s : Bs) : (prp s).1.links.length ≤ 1000 := by
  unfold prp
  cases h : prs s with
  | none => show (0 : Nat) ≤ 1000; omega
  | some p =>
    have := Pg.fresh_room (Pg.may_fresh (prs_some h).1)
    show p.links.length ≤ 1000
    omega
theorem prp_body (s : Bs) : (prp s).1.body.length ≤ 1000 := by
  unfold prp
  cases h : prs s with
  | none => show (0 : Nat) ≤ 1000; omega
  | some p =>
    have := Pg.fresh_room (Pg.may_fresh (prs_some h).1)
    show p.body.length ≤ 1000
    omega
theorem smp_self (p : Pg) : smp p p = true := by
  unfold smp
  simp
theorem bk_no24 (h : Bok B b E vF vW w) {g : Nat} {cs : Array Value} (hg : w.heap[g]? = some (.cells cs 24 (0, 0))) : ¬ BkOf b vF vW g := fun q => by
  obtain ⟨cs2, t, e, ht⟩ := bk_ty h q
  rw [hg] at e
  cases e
  rcases ht with r | r <;> exact absurd r (by decide)
theorem bk_lo (h : Bok B b E vF vW w) : ∀ k, BkOf b vF vW k → B ≤ k := fun k hk => by
  rcases hk with q | q | q
  · rw [q]; exact h.lb.1
  · exact h.lf k q
  · exact h.ls k q
theorem ins_of {W : World} {q : Option Addr} {l : List Int} {c : Nat} (h : W.ownsRow 0 3 1 (.slice q l.length c) l.length (l.map fun z => I z)) : Ins W q l.length l := by
  obtain ⟨p, c', e, i, _⟩ := Ins.of h
  cases e
  exact i
/-- A page's box is filled. -/
theorem box_fill (W : World) (k m b : Int) (q : Option Addr) (n c : Nat) (x : Bs) : Below W.heap.size W ((W.alloc (.cells #[I 0, I 0, I 0, .slice none 0 0, .string ⟨#[]⟩] 24)).setRow W.heap.size #[I k, I m, I b, .slice q n c, S x]) ∧ ((W.alloc (.cells #[I 0, I 0, I 0, .slice none 0 0, .string ⟨#[]⟩] 24)).setRow W.heap.size #[I k, I m, I b, .slice q n c, S x]).heap[W.heap.size]? = some (.cells #[I k, I m, I b, .slice q n c, S x] 24 (0, 0)) :=
  ⟨belowR ((Below.refl W.heap.size W).alloc (Nat.le_refl _) _) (Nat.le_refl _) _, setRow_row (heap_alloc_new W _)⟩
/-- What is neither a book's nor a list of lists stays. -/
def KeepT (w w' : World) : Prop := ∀ (k : Nat) (cs : Array Value) (t : TypeId), w.heap[k]? = some (.cells cs t (0, 0)) → t ≠ 32 → t ≠ 22 → w'.heap[k]? = some (.cells cs t (0, 0))
theorem KeepT.below {w w' : World} (b : Below w.heap.size w w') : KeepT w w' := fun k _ _ h _ _ => (b.block k (lt_of_row h)).trans h
theorem KeepT.trans {w w' w2 : World} (h : KeepT w w') (h2 : KeepT w' w2) : KeepT w w2 := fun k cs t e h3 h4 => h2 k cs t (h k cs t e h3 h4) h3 h4
theorem KeepT.only {w' : World} (h : Bok B b E vF vW w) (o : Only (BkOf b vF vW) w w') : KeepT w w' := fun k cs t e h3 h4 => (o.block k (lt_of_row e) (fun q => by
  obtain ⟨cs2, t2, e2, q2⟩ := bk_ty h q
  rw [e] at e2
  cases e2
  exact q2.elim h3 h4)).trans e
theorem parses_any (h : Bok B b E vF vW w) (s : Bs) (hE : E.length ≤ 1000) :
    Calls Tryz.prog 15 #[ptr b, S s] w fun e w' => e = .returned (.bool true) ∧ ∃ E' vF' vW', Bok B b E' vF' vW' w' ∧ E'.length = E.length + 2 ∧ Below B w w' ∧ KeepT w w' := by
  have K1 := hide (fun W => parsePage_any s W)
  have K2 := hide (fun W => rParsePage_any s W)
  have hf := prp_few s
  have hb := prp_body s
  have HS := hide (smp_self (prp s).1)
  have K3 := hide (fun W a a2 cap cap2 (i1 : Ins W a (prp s).1.links.length (prp s).1.links) (i2 : Ins W a2 (prp s).1.links.length (prp s).1.links) => samePage_any (prp s).1 (prp s).1 a a2 cap cap2 W i1 i2 (by omega) (by omega))
  rw [unhide HS] at K3
  have HH := hide h
  have HE := hide hE
  have HFW := hide hf
  clear h hE hf hb HS
  generalize prp s = PP at *
  obtain ⟨⟨k, m, bi, l, x⟩, er⟩ := PP
  unfold PgOut at K1 K2
  unfold pga at K1 K2 K3
  simp only at K1 K2 K3 HFW
  go_enter Tryz.func15, Tryz.ntmps15
  go_wp2_with fail
  refine (unhide K1 _).mono ?_
  rintro e w1 ⟨q1, c1, rfl, r1, n1, b1⟩
  obtain ⟨f1, g1⟩ := box_fill w1 k m bi q1 l.length c1 x
  have HA1 := hide (heap_alloc_new w1 (.cells #[I 0, I 0, I 0, .slice none 0 0, .string ⟨#[]⟩] 24))
  have HR1 := hide (owns_below r1 f1)
  have HN1 := hide n1
  have HG1 := hide g1
  have HB1 := hide (b1.trans (f1.mono b1.size))
  clear r1 n1 b1 f1 g1
  go_wp2_with (refine wp_st24 rfl (.tmp 5) (.tmp 16) rfl w1.heap.size (by rfl) k m bi q1 l.length c1 x (by rfl) _ rfl (unhide HA1) ?_; generalize (w1.alloc (.cells #[I 0, I 0, I 0, .slice none 0 0, .string ⟨#[]⟩] 24)).setRow w1.heap.size #[I k, I m, I bi, .slice q1 l.length c1, S x] = w1b at *)
  refine (unhide K1 _).mono ?_
  rintro e w2 ⟨q2, c2, rfl, r2, n2, b2⟩
  obtain ⟨f2, g2⟩ := box_fill w2 k m bi q2 l.length c2 x
  have HA2 := hide (heap_alloc_new w2 (.cells #[I 0, I 0, I 0, .slice none 0 0, .string ⟨#[]⟩] 24))
  have b2' := b2.trans (f2.mono b2.size)
  have HR2 := hide (owns_below r2 f2)
  have HN2 := hide n2
  have HG2 := hide g2
  have HR12 := hide (owns_below (unhide HR1) b2')
  have HG12 := hide ((b2'.block _ (lt_of_row (unhide HG1))).trans (unhide HG1))
  have HB2 := hide ((unhide HB1).trans (b2'.mono (unhide HB1).size))
  have HS1 := hide (unhide HB1).size
  have hd12 : ∀ k, (Value.slice q1 l.length c1).ownBlock = some k → (Value.slice q2 l.length c2).ownBlock ≠ some k := fun k hk e => by
    have h1 := owns_blk (unhide HR1) k hk
    have h2 := n2 k e
    omega
  have HD12 := hide hd12
  clear r2 n2 b2 f2 g2 b2' hd12 HA1 HG1 HR1 HB1
  go_wp2_with (refine wp_st24 rfl (.tmp 7) (.tmp 21) rfl w2.heap.size (by rfl) k m bi q2 l.length c2 x (by rfl) _ rfl (unhide HA2) ?_; generalize (w2.alloc (.cells #[I 0, I 0, I 0, .slice none 0 0, .string ⟨#[]⟩] 24)).setRow w2.heap.size #[I k, I m, I bi, .slice q2 l.length c2, S x] = w2b at *)
  refine (unhide K2 _).mono ?_
  rintro e w3 ⟨q3, c3, rfl, r3, n3, b3⟩
  obtain ⟨f3, g3⟩ := box_fill w3 k m bi q3 l.length c3 x
  have HA3 := hide (heap_alloc_new w3 (.cells #[I 0, I 0, I 0, .slice none 0 0, .string ⟨#[]⟩] 24))
  have b3' := b3.trans (f3.mono b3.size)
  have HR3 := hide (owns_below r3 f3)
  have HG3 := hide g3
  have HR13 := hide (owns_below (unhide HR12) b3')
  have HR23 := hide (owns_below (unhide HR2) b3')
  have HG13 := hide ((b3'.block _ (lt_of_row (unhide HG12))).trans (unhide HG12))
  have HG23 := hide ((b3'.block _ (lt_of_row (unhide HG2))).trans (unhide HG2))
  have HB3 := hide ((unhide HB2).trans (b3'.mono (unhide HB2).size))
  clear r3 n3 b3 f3 g3 b3' HA2 HG2 HR2 HB2 HR12 HG12
  go_wp2_with (refine wp_st24 rfl (.tmp 9) (.tmp 26) rfl w3.heap.size (by rfl) k m bi q3 l.length c3 x (by rfl) _ rfl (unhide HA3) ?_; generalize (w3.alloc (.cells #[I 0, I 0, I 0, .slice none 0 0, .string ⟨#[]⟩] 24)).setRow w3.heap.size #[I k, I m, I bi, .slice q3 l.length c3, S x] = w3b at *; obtain ⟨x0, x1, x2, x3, x4⟩ := box5 (unhide HG13) (Below.refl _ _) (lt_of_row (unhide HG13)); obtain ⟨y0, y1, y2, y3, y4⟩ := box5 (unhide HG23) (Below.refl _ _) (lt_of_row (unhide HG23)); obtain ⟨z0, z1, z2, z3, z4⟩ := box5 (unhide HG3) (Below.refl _ _) (lt_of_row (unhide HG3)))
  refine (unhide K3 _ q1 q3 c1 c3 (ins_of (unhide HR13)) (ins_of (unhide HR3))).mono ?_
  rintro e w4 ⟨rfl, b4⟩
  have HR14 := hide (owns_below (unhide HR13) b4)
  have HR24 := hide (owns_below (unhide HR23) b4)
  have HR34 := hide (owns_below (unhide HR3) b4)
  have HG14 := hide ((b4.block _ (lt_of_row (unhide HG13))).trans (unhide HG13))
  have HG24 := hide ((b4.block _ (lt_of_row (unhide HG23))).trans (unhide HG23))
  have HG34 := hide ((b4.block _ (lt_of_row (unhide HG3))).trans (unhide HG3))
  have HB4 := hide ((unhide HB3).trans (b4.mono (unhide HB3).size))
  obtain ⟨y0', y1', y2', y3', y4'⟩ := box5 (unhide HG24) (Below.refl _ _) (lt_of_row (unhide HG24))
  obtain ⟨z0', z1', z2', z3', z4'⟩ := box5 (unhide HG34) (Below.refl _ _) (lt_of_row (unhide HG34))
  clear b4 x0 x1 x2 x3 x4 y0 y1 y2 y3 y4 z0 z1 z2 z3 z4 HR13 HR23 HR3 HG13 HG23 HG3 HB3 HA3
  go_wp2_with fail
  refine (unhide K3 _ q2 q3 c2 c3 (ins_of (unhide HR24)) (ins_of (unhide HR34))).mono ?_
  rintro e w5 ⟨rfl, b5⟩
  have HR15 := hide (owns_below (unhide HR14) b5)
  have HR25 := hide (owns_below (unhide HR24) b5)
  have HR35 := hide (owns_below (unhide HR34) b5)
  have HG15 := hide ((b5.block _ (lt_of_row (unhide HG14))).trans (unhide HG14))
  have HG25 := hide ((b5.block _ (lt_of_row (unhide HG24))).trans (unhide HG24))
  have HG35 := hide ((b5.block _ (lt_of_row (unhide HG34))).trans (unhide HG34))
  have HB5 := hide ((unhide HB4).trans (b5.mono (unhide HB4).size))
  obtain ⟨x0, x1, x2, x3, x4⟩ := box5 (unhide HG15) (Below.refl _ _) (lt_of_row (unhide HG15))
  obtain ⟨z0, z1, z2, z3, z4⟩ := box5 (unhide HG35) (Below.refl _ _) (lt_of_row (unhide HG35))
  clear b5 y0' y1' y2' y3' y4' z0' z1' z2' z3' z4' HR14 HR24 HR34 HG14 HG24 HG34 HB4 K1 K2 K3
  have hH5 := (unhide HH).below (unhide HB5)
  have T1 := hide (takes_any hH5 (.slice q1 l.length c1) (.slice q3 l.length c3) l (unhide HR15) (unhide HR35) (fun y hy k hk e => by have h1 := owns_blk ((unhide HH).fr y hy) k hk; have h2 := unhide HN1 k e; omega) (fun k hk => Nat.le_trans (unhide HH).lb.2 (unhide HN1 k hk)) (unhide HFW) (by have := unhide HE; omega))
  have HH5 := hide hH5
  clear hH5
  go_wp2_with fail
  refine (unhide T1).mono ?_
  rintro e w6 ⟨rfl, vF6, vW6, h6, o6⟩
  have HR26 := hide (owns_only (unhide HR25) o6 (bk_no3 (unhide HH5) (unhide HR25)))
  have HR36 := hide (owns_only (unhide HR35) o6 (bk_no3 (unhide HH5) (unhide HR35)))
  have HG26 := hide ((o6.block _ (lt_of_row (unhide HG25)) (bk_no24 (unhide HH5) (unhide HG25))).trans (unhide HG25))
  have HG36 := hide ((o6.block _ (lt_of_row (unhide HG35)) (bk_no24 (unhide HH5) (unhide HG35))).trans (unhide HG35))
  have HK6 := hide ((KeepT.below (unhide HB5)).trans (KeepT.only (unhide HH5) o6))
  have HB6 := hide (o6.below ((unhide HB5).mono (unhide HH).lb.2) (unhide HH5).lb.2 (bk_lo (unhide HH5)))
  obtain ⟨y0, y1, y2, y3, y4⟩ := box5 (unhide HG26) (Below.refl _ _) (lt_of_row (unhide HG26))
  obtain ⟨u0, u1, u2, u3, u4⟩ := box5 (unhide HG36) (Below.refl _ _) (lt_of_row (unhide HG36))
  have T2 := hide (takes_any h6 (.slice q2 l.length c2) (.slice q3 l.length c3) l (unhide HR26) (unhide HR36) (fun y hy k hk e => by
    have h2 := unhide HN2 k e
    have h3 := unhide HS1
    rcases List.mem_append.1 hy with r | r
    · have h1 := owns_blk ((unhide HH).fr y r) k hk
      omega
    · rw [List.mem_singleton.1 r] at hk
      exact unhide HD12 k hk e) (fun k hk => by have h1 := unhide HN2 k hk; have h3 := unhide HS1; have := (unhide HH).lb.2; omega) (unhide HFW) (by rw [List.length_append, List.length_singleton]; have := unhide HE; omega))
  have HH6 := hide h6
  clear h6 o6 T1 x0 x1 x2 x3 x4 z0 z1 z2 z3 z4 HR15 HR25 HR35 HG15 HG25 HG35
  go_wp2_with fail
  refine (unhide T2).mono ?_
  rintro e w7 ⟨rfl, vF7, vW7, h7, o7⟩
  have HK7 := hide ((unhide HK6).trans (KeepT.only (unhide HH6) o7))
  have HB7 := hide (o7.below (unhide HB6) (unhide HH6).lb.2 (bk_lo (unhide HH6)))
  have HH7 := hide h7
  clear h7 o7 T2 y0 y1 y2 y3 y4 u0 u1 u2 u3 u4
  have cE : (er == er) = true := by simp
  go_wp2
  go_ret
  refine ⟨by simp, _, vF7, vW7, unhide HH7, ?_, unhide HB7, unhide HK7⟩
  rw [List.length_append, List.length_append, List.length_singleton, List.length_singleton]
end Go.Proofs.YtjopnhhdemfniaaGreatDoor
