import Derived.Test.YtpelmacblglhoaaZzcc
import Derived.Test.YtpelmacblglhoaaRgpb
import Derived.Test.YtpelmacblglhoaaDsy
import Derived.BigQuiet
namespace Go.Proofs.Ytpelmacblglhoaa
open Go.RowKit
set_option maxHeartbeats 16000000
set_option maxRecDepth 16000
/-- A step of a script as it lies in memory. -/
structure Opm where
  o : Opv
  a : Option Addr
  c : Nat
def opz : Opm := ⟨⟨0, 0, 0, [], []⟩, none, 0⟩
def Ols (w : World) (a : Option Addr) (n : Nat) (l : List Opm) : Prop :=
  n = l.length ∧ (∀ x ∈ l, Opr x.o ∧ Kls w x.a x.o.ks.length x.o.ks) ∧ (0 < n → ∃ p q, a = some ⟨p, q, none⟩ ∧ ∀ j, j < n → w.cell? ⟨p, q + j * 5, none⟩ = some (I (l.getD j opz).o.kind) ∧ w.cell? ⟨p, q + j * 5 + 1, none⟩ = some (I (l.getD j opz).o.on) ∧ w.cell? ⟨p, q + j * 5 + 2, none⟩ = some (I (l.getD j opz).o.n) ∧ w.cell? ⟨p, q + j * 5 + 3, none⟩ = some (S (l.getD j opz).o.s) ∧ w.cell? ⟨p, q + j * 5 + 4, none⟩ = some (.slice (l.getD j opz).a (l.getD j opz).o.ks.length (l.getD j opz).c))
/-- The world of the law, empty. -/
def ws0 (b : Nat) : Ws := { tag := fun k => if k < b then (9, 9) else (0, 0), sd := [], vl := .slice none 0 0, N1 := 0, f1 := 0, vs1 := fun _ => .slice none 0 0, ws1 := fun _ => .slice none 0 0, L1 := fun _ => [], pf1 := none, pw1 := none, pd1 := none, cf1 := 0, cw1 := 0, cd1 := 0, Dn1 := [], N2 := 0, f2 := 0, vs2 := fun _ => .slice none 0 0, ws2 := fun _ => .slice none 0 0, L2 := fun _ => [], pf2 := none, pw2 := none, pd2 := none, cf2 := 0, cw2 := 0, cd2 := 0, Dn2 := [], vh := .slice none 0 0, hn := 0, hs := [] }
theorem wi_start {w w1 : World} (b : Below w.heap.size w w1) : WI w 0 w1.heap.size none (ws0 w.heap.size) (w1.alloc (.cells #[.slice none 0 0, .slice none 0 0, .slice none 0 0, .slice none 0 0, .slice none 0 0, .slice none 0 0, .slice none 0 0, .slice none 0 0] 30)) := by
  refine ⟨heap_alloc_new _ _, ?_, owns_nil _ _ _, (fun _ hk => nomatch hk), fun i x hx => by simp [ws0] at hx, ⟨owns_nil _ _ _, (fun _ hk => nomatch hk), fun i _ h => absurd h (Nat.not_lt_zero _), fun i _ h => absurd h (Nat.not_lt_zero _), fun i h => absurd h (Nat.not_lt_zero _)⟩, ⟨owns_nil _ _ _, (fun _ hk => nomatch hk), fun i h => absurd h (Nat.not_lt_zero _)⟩, ⟨owns_nil _ _ _, (fun _ hk => nomatch hk), fun j v hv => by simp [ws0] at hv⟩, ⟨owns_nil _ _ _, (fun _ hk => nomatch hk), fun i _ h => absurd h (Nat.not_lt_zero _), fun i _ h => absurd h (Nat.not_lt_zero _), fun i h => absurd h (Nat.not_lt_zero _)⟩, ⟨owns_nil _ _ _, (fun _ hk => nomatch hk), fun i h => absurd h (Nat.not_lt_zero _)⟩, ⟨owns_nil _ _ _, (fun _ hk => nomatch hk), fun j v hv => by simp [ws0] at hv⟩, rfl, rfl, by simp [ws0], by simp [ws0], by simp [ws0], owns_nil _ _ _, (fun _ hk => nomatch hk), b.trans (((Below.refl w1.heap.size w1).alloc (Nat.le_refl _) _).mono b.size), fun k hk => if_pos hk⟩
  show (if w1.heap.size < w.heap.size then ((9, 9) : Tg) else (0, 0)) = (0, 0)
  rw [if_neg (by have := b.size; omega)]
theorem plays_any (blocks : Int) (a : Option Addr) (n cap : Nat) (l : List Opm) (w : World) (hb : -9223372036854775808 ≤ blocks ∧ blocks ≤ 9223372036854775807) (hl : Ols w a n l) (hn : n ≤ 2000000) :
    Calls Try.prog 3 #[I blocks, .slice a n cap] w fun e w' => e = .returned (.bool true) ∧ Below w.heap.size w w' := by
  have hN := hl.1
  subst hN
  have HL := hide hl
  have H0 := hide (known_any w)
  have HPk := hide (fun W => pick_any blocks 20 W (by omega) (by omega) hb.1 hb.2)
  have hc20 := pkv_lt blocks 20 (by omega)
  generalize pkv blocks 20 = c at *
  clear hl
  go_enter Try.func3, Try.ntmps3
  go_wp2_with fail
  refine (unhide H0).mono ?_
  rintro e w1 ⟨rfl, b1⟩
  have HWI := hide (wi_start b1)
  have hz0 : Kls w none ([] : List Kp).length [] := ⟨rfl, fun h => absurd h (Nat.not_lt_zero _)⟩
  have HP1 := hide (play_wi (wi_start b1) 12 0 (8 + (c : Int)) [] [] none 0 hz0 ⟨⟨by simp only; omega, by simp only; omega⟩, ⟨by simp only; omega, by simp only; omega⟩, ⟨by simp only; omega, by simp only; omega⟩, by simp, by simp, by simp⟩ (by omega) (by show (0 : Nat) ≤ _; omega))
  clear b1 hz0 H0 HWI
  go_wp2_with fail
  refine (unhide HPk _).mono ?_
  rintro e w2 ⟨rfl, hw2⟩
  rw [hw2]
  clear hw2 w2
  go_wp2_with fail
  refine (unhide HP1).mono ?_
  rintro e w2 ⟨rfl, s2, hw2, hh2⟩
  have HS := hide (show ∃ s, WI w (0 + 1) w1.heap.size none s w2 ∧ s.hn ≤ 1000000 from ⟨s2, hw2, hh2⟩)
  generalize w1.heap.size = Z at *
  clear hw2 hh2 HP1 HPk
  go_wp2
  go_loopw [8] (fun x wr => ∃ i : Nat, i ≤ l.length ∧ x = .int .i64 i ∧ ∃ s, WI w (i + 1) Z none s wr ∧ s.hn ≤ 1000000) (fun x _ => l.length - (Go.RowKit.intOf x).toNat)
  case atStart => exact ⟨0, by omega, rfl, unhide HS⟩
  case round =>
    clear HS
    obtain ⟨i, hi, rfl, s, hw, hh⟩ := hrel
    by_cases hlt : i < l.length
    · have hlt' : (i : Int) < (l.length : Int) := by omega
      obtain ⟨-, hor, hcl⟩ := unhide HL
      obtain ⟨p, q, ea, hcc⟩ := hcl (by omega)
      obtain ⟨c0, c1, c2, c3, c4⟩ := hcc i hlt
      obtain ⟨hop, hks⟩ := hor _ (mem_getD (z := opz) hlt)
      have cv : ∀ t v, w.cell? ⟨p, t, none⟩ = some v → wr.cell? ⟨p, t, none⟩ = some v := fun t v h => (hw.old.cell (p := ⟨p, t, none⟩) (blk_lt h)).trans h
      have d0 := cv _ _ c0
      have d1 := cv _ _ c1
      have d2 := cv _ _ c2
      have d3 := cv _ _ c3
      have d4 := cv _ _ c4
      have lp := blk_lt d0
      generalize l.getD i opz = x at *
      obtain ⟨⟨kind, on, n, str, ks⟩, ka, kc⟩ := x
      simp only at d0 d1 d2 d3 d4 hks
      have HP := hide (play_wi hw kind on n str ks ka kc hks hop (by omega) hh)
      have HSt := hide (fun (W : World) (s : Ws) (h : WI w (i + 1 + 1) Z none s W) => still_wi h (by omega))
      subst ea
      clear hw hh hor hcl hcc c0 c1 c2 c3 c4 cv hop hks
      go_wp2_with fail
      refine (unhide HP).mono ?_
      rintro e w3 ⟨rfl, s3, hw3, hh3⟩
      have HN := hide (show ∃ s, WI w (i + 1 + 1) Z none s w3 ∧ s.hn ≤ 1000000 from ⟨s3, hw3, hh3⟩)
      have HS3 := hide (unhide HSt w3 s3 hw3)
      have HH3 := hide hh3
      clear hw3 hh3 HP HSt d0 d1 d2 d3 d4
      by_cases h3 : (i : Int).tmod 3 = 2
      · go_wp2_with fail
        refine (unhide HS3).mono ?_
        rintro e w4 ⟨rfl, s4, hw4, -, hh4⟩
        have HN4 := hide (show ∃ s, WI w (i + 1 + 1) Z none s w4 ∧ s.hn ≤ 1000000 from ⟨s4, hw4, by rw [hh4]; exact unhide HH3⟩)
        clear hw4 hh4
        go_wp2
        refine ⟨⟨i + 1, by omega, by go_num, unhide HN4⟩, ?_⟩
        simp [Go.RowKit.intOf]; omega
      · have h3' : (i : Int).tmod 3 = 0 ∨ (i : Int).tmod 3 = 1 := by
          rw [Int.tmod_eq_emod_of_nonneg (by omega)] at h3 ⊢
          omega
        clear h3
        rcases h3' with h3 | h3
        · go_wp2
          refine ⟨⟨i + 1, by omega, by go_num, unhide HN⟩, ?_⟩
          simp [Go.RowKit.intOf]; omega
        · go_wp2
          refine ⟨⟨i + 1, by omega, by go_num, unhide HN⟩, ?_⟩
          simp [Go.RowKit.intOf]; omega
    · have hlt' : ¬ (i : Int) < (l.length : Int) := by omega
      have hd : decide (i < l.length) = false := by simp; omega
      have hie : i = l.length := by omega
      have HW := hide hw
      have HH := hide hh
      obtain ⟨pl, cl, hpl⟩ := owns_form hw.rl
      have HPL := hide hpl
      have z0 : wr.cell? ⟨Z, 0, none⟩ = some (.slice pl s.sd.length cl) := by rw [hw.cell 0]; show some s.vl = _; rw [hpl]
      have hZr := hw.lt
      have HI := hide hie
      have hns := hw.ns
      clear hw hh hpl hie
      go_wp2
      obtain ⟨W9, hW9⟩ : ∃ W9, W9 = wr := ⟨_, rfl⟩
      subst hW9
      go_loopw [11] (fun y wq => ∃ t : Nat, t ≤ s.sd.length ∧ y = .int .i64 t ∧ Below W9.heap.size W9 wq) (fun y _ => s.sd.length - (Go.RowKit.intOf y).toNat)
      case atStart => exact ⟨0, by omega, rfl, Below.refl _ _⟩
      case round =>
        obtain ⟨t, ht, rfl, hb⟩ := hrel
        have hwr := (unhide HW).below hb
        have z0q : wr.cell? ⟨Z, 0, none⟩ = some (.slice pl s.sd.length cl) := by rw [hwr.cell 0]; show some s.vl = _; rw [unhide HPL]
        have hZq := hwr.lt
        by_cases hlt : t < s.sd.length
        · have hlt2 : (t : Int) < (s.sd.length : Int) := by omega
          obtain ⟨x, hx⟩ : ∃ x, s.sd[t]? = some x := ⟨_, List.getElem?_eq_getElem hlt⟩
          have so := hwr.so t x hx (by simp)
          obtain ⟨g, cg, cur, eg, -⟩ := owns_at hwr.rl (show 0 < s.sd.length by omega)
          rw [unhide HPL] at eg
          cases eg
          have hrl := hwr.rl
          rw [unhide HPL] at hrl
          have hcs := cellsS_at _ t x hx
          have q0 := owns_cell hrl _ _ hcs.1
          have q1 := owns_cell hrl _ _ hcs.2
          have hgl := blk_lt q0
          have HLn := hide (And.intro so.ok.len.2 so.ok.few)
          have hrl2 : x.r.l = x.d.last := so.rel.l
          have hpd : pndR x.r x.r.l.length = x.d.ws := so.rel.pend so.ok
          have F1 := hide (fun (W : World) (b : Below wr.heap.size wr W) => blocks_any (so.dat.below b) (fun y hy => by have := so.ok.sz y hy; omega) (by have := so.ok.len; omega))
          have F2 := hide (fun (W : World) (b : Below wr.heap.size wr W) => rBlocks_any (so.rat.below b) (by rw [so.rel.l]; exact so.ok.len.1) (by rw [so.rel.l]; exact so.ok.len.2))
          have F3 := hide (fun (W : World) (b : Below wr.heap.size wr W) => pending_any (so.dat.below b) so.ok)
          have F4 := hide (fun (W : World) (b : Below wr.heap.size wr W) => rPending_any (so.rat.below b) (by rw [so.rel.l]; exact so.ok.len.1) (by rw [so.rel.l]; exact so.ok.len.2))
          rw [hpd] at F4
          rw [hrl2] at F2
          have F5 := hide (fun (W : World) (b : Below wr.heap.size wr W) => (so.dat.below b))
          have F6 := hide (fun (W : World) (b : Below wr.heap.size wr W) => (so.rat.below b).c)
          have F7 := hide (And.intro so.rel.dead so.rel.done)
          have hXl := so.rat.lt
          have HB := hide hb
          clear hwr hrl hcs hrl2 hpd so hx hb
          go_wp2_with fail
          refine rpb Z g s.sd.length cl t x.D x.X x.d.last.length rfl rfl rfl _ _ (show 78 ≤ 151 from by decide) rfl rfl (fun c L W => Below wr.heap.size wr W ∧ (L 8 = true → Sts W c.p1 x.d.last.length x.d.last) ∧ (L 17 = true → Sts W c.p2 x.d.last.length x.d.last)) ⟨⟨none, 0, none, 0⟩, ?h0⟩ ?hp hlt hlt ?l3 ?l7 ?l12 ?l16 ?c8 ?c17 ?c18 ?_
          case h0 => exact ⟨(Below.refl _ _).drew, fun h => (by cases h), fun h => (by cases h)⟩
          case hp =>
            intro i hi c L W q
            have h8 : i ≠ 8 := by rintro rfl; simp at hi
            have h17 : i ≠ 17 := by rintro rfl; simp at hi
            simpa only [upd, Ne.symm h8, Ne.symm h17, if_false] using q
          case l3 => exact fun c L W q => (World.cell?_of_block (q.1.block Z hZq)).trans z0q
          case l7 => exact fun c L W q => (World.cell?_of_block (q.1.block g hgl)).trans (by rw [Nat.zero_add]; exact q0)
          case l12 => exact fun c L W q => (World.cell?_of_block (q.1.block Z hZq)).trans z0q
          case l16 => exact fun c L W q => (World.cell?_of_block (q.1.block g hgl)).trans (by rw [Nat.zero_add]; exact q1)
          case c8 =>
            intro c L W q hL
            refine (unhide F1 W q.1).mono ?_
            rintro e w' ⟨V, rfl, r3, n3, b3⟩
            obtain ⟨p3, c3, eV, hS, -⟩ := Sts.of r3
            subst eV
            refine ⟨⟨p3, c3, c.p2, c.c2⟩, fun i hi => ?_, rfl, q.1.trans (b3.mono q.1.size), fun _ => hS, fun h => (q.2.2 (by simpa [upd] using h)).below b3⟩
            unfold vpb
            split <;> first | rfl | (rw [hL] at hi; cases hi)
          case c17 =>
            intro c L W q hL
            refine (unhide F2 W q.1).mono ?_
            rintro e w' ⟨V, rfl, r3, n3, b3⟩
            obtain ⟨p3, c3, eV, hS, -⟩ := Sts.of r3
            subst eV
            refine ⟨⟨c.p1, c.c1, p3, c3⟩, fun i hi => ?_, rfl, q.1.trans (b3.mono q.1.size), fun h => (q.2.1 (by simpa [upd] using h)).below b3, fun _ => hS⟩
            unfold vpb
            split <;> first | rfl | (rw [hL] at hi; cases hi)
          case c18 =>
            intro c L W q hL h8 h17
            refine (same_any c.p1 c.p2 x.d.last.length c.c1 c.c2 x.d.last W (q.2.1 h8) (q.2.2 h17) (by have := unhide HLn; omega)).mono ?_
            rintro e w' ⟨rfl, b3⟩
            exact ⟨rfl, q.1.trans (b3.mono q.1.size), fun h => (q.2.1 (by simpa [upd] using h)).below b3, fun h => (q.2.2 (by simpa [upd] using h)).below b3⟩
          intro chA LA WA _ qA
          have HBA := hide qA.1
          clear qA
          simp only [Act.put, List.setIfInBounds_toArray, List.set_cons_succ, List.set_cons_zero]
          go_wp2_with fail
          refine rpw Z g s.sd.length cl t x.D x.X x.d.ws.length rfl rfl rfl _ _ (show 97 ≤ 151 from by decide) rfl rfl (fun c L W => Below wr.heap.size wr W ∧ (L 8 = true → Wls W c.p1 x.d.ws.length x.d.ws) ∧ (L 17 = true → Wls W c.p2 x.d.ws.length x.d.ws)) ⟨⟨none, 0, none, 0⟩, ?h0⟩ ?hp hlt hlt ?l3 ?l7 ?l12 ?l16 ?c8 ?c17 ?c18 ?_
          case h0 => exact ⟨below_drew (unhide HBA), fun h => (by cases h), fun h => (by cases h)⟩
          case hp =>
            intro i hi c L W q
            have h8 : i ≠ 8 := by rintro rfl; simp at hi
            have h17 : i ≠ 17 := by rintro rfl; simp at hi
            simpa only [upd, Ne.symm h8, Ne.symm h17, if_false] using q
          case l3 => exact fun c L W q => (World.cell?_of_block (q.1.block Z hZq)).trans z0q
          case l7 => exact fun c L W q => (World.cell?_of_block (q.1.block g hgl)).trans (by rw [Nat.zero_add]; exact q0)
          case l12 => exact fun c L W q => (World.cell?_of_block (q.1.block Z hZq)).trans z0q
          case l16 => exact fun c L W q => (World.cell?_of_block (q.1.block g hgl)).trans (by rw [Nat.zero_add]; exact q1)
          case c8 =>
            intro c L W q hL
            refine (unhide F3 W q.1).mono ?_
            rintro e w' ⟨V, rfl, r3, n3, b3⟩
            obtain ⟨p3, c3, eV, hS⟩ := Wls.of r3
            subst eV
            refine ⟨⟨p3, c3, c.p2, c.c2⟩, fun i hi => ?_, rfl, q.1.trans (b3.mono q.1.size), fun _ => hS, fun h => (q.2.2 (by simpa [upd] using h)).below b3⟩
            unfold vpb
            split <;> first | rfl | (rw [hL] at hi; cases hi)
          case c17 =>
            intro c L W q hL
            refine (unhide F4 W q.1).mono ?_
            rintro e w' ⟨V, rfl, r3, n3, b3⟩
            obtain ⟨p3, c3, eV, hS⟩ := Wls.of r3
            subst eV
            refine ⟨⟨c.p1, c.c1, p3, c3⟩, fun i hi => ?_, rfl, q.1.trans (b3.mono q.1.size), fun h => (q.2.1 (by simpa [upd] using h)).below b3, fun _ => hS⟩
            unfold vpb
            split <;> first | rfl | (rw [hL] at hi; cases hi)
          case c18 =>
            intro c L W q hL h8 h17
            refine (sameWrites_any c.p1 c.p2 x.d.ws.length c.c1 c.c2 x.d.ws W (q.2.1 h8) (q.2.2 h17) (by have := unhide HLn; omega)).mono ?_
            rintro e w' ⟨rfl, b3⟩
            exact ⟨rfl, q.1.trans (b3.mono q.1.size), fun h => (q.2.1 (by simpa [upd] using h)).below b3, fun h => (q.2.2 (by simpa [upd] using h)).below b3⟩
          intro chB LB WB _ qB
          have HBB := hide qB.1
          clear qB
          simp only [Act.put, List.setIfInBounds_toArray, List.set_cons_succ, List.set_cons_zero]
          have hBB := unhide HBB
          have z9 := (hBB.cell (p := ⟨Z, 0, none⟩) hZq).trans z0q
          have hZ9 := Nat.lt_of_lt_of_le hZq hBB.size
          have k0 := (hBB.cell (p := ⟨g, t * 2, none⟩) hgl).trans q0
          have k1 := (hBB.cell (p := ⟨g, t * 2 + 1, none⟩) hgl).trans q1
          have hg9 := blk_lt k0
          obtain ⟨-, -, -, -, v4, v5⟩ := unhide F6 WB hBB
          rw [(unhide F7).1] at v4
          rw [(unhide F7).2] at v5
          have hX9 := Nat.lt_of_lt_of_le hXl hBB.size
          have G1 := hide (fun m => Calls.mono (dead_any (unhide F5 (WB.drewN m) (hBB.trans ((below_drewN WB m).mono hBB.size)))) (fun e w' (q : e = .returned (.bool x.d.dead) ∧ w' = WB.drewN m) => (⟨q.1, m, q.2⟩ : e = .returned (.bool x.d.dead) ∧ ∃ k, w' = WB.drewN k)))
          have G2 := hide (fun m => Calls.mono (acts_any (unhide F5 (WB.drewN m) (hBB.trans ((below_drewN WB m).mono hBB.size)))) (fun e w' (q : e = .returned (I x.d.acts) ∧ w' = WB.drewN m) => (⟨q.1, m, q.2⟩ : e = .returned (I x.d.acts) ∧ ∃ k, w' = WB.drewN k)))
          generalize x.d.dead = xd at *
          generalize x.d.acts = xa at *
          have HN := hide (fun m => (unhide HB).trans ((hBB.trans ((below_drewN WB m).mono hBB.size)).mono (unhide HB).size))
          clear hBB q0 q1 z0q F1 F2 F3 F4 F5 F6 F7 HBA HBB
          go_wp2
          go_quiet (first
            | (go_at_call 16; with_reducible exact unhide G1 _)
            | (go_at_call 17; with_reducible exact unhide G2 _))
          go_wp2
          refine ⟨⟨t + 1, by omega, by go_num, unhide HN _⟩, ?_⟩
          simp [Go.RowKit.intOf]; omega
        · have hlt2 : ¬ (t : Int) < (s.sd.length : Int) := by omega
          have hd2 : decide (t < s.sd.length) = false := by simp; omega
          have HSt := hide (still_wi hwr (by have := unhide HI; omega))
          clear hwr hb
          go_wp2_with fail
          refine (unhide HSt).mono ?_
          rintro e w4 ⟨rfl, s4, hw4, -, -⟩
          have HE := hide hw4.old
          clear hw4
          go_wp2
          go_ret
          exact ⟨rfl, unhide HE⟩
end Go.Proofs.Ytpelmacblglhoaa
