import Derived.Test.YthlacailhfhjnaaGreatDoorZwcg
import Derived.Test.YthlacailhfhjnaaGreatDoorRgf
namespace Go.Proofs.YthlacailhfhjnaaGreatDoor
open Go.RowKit Go.Lib
/-- The worlds of a region that makes a block and appends it. -/
def WdA (c : Nat) (W3 Wa W4 : World) (L : Nat → Bool) (W : World) : Prop := (L (c + 2) = true → L 0 = true) ∧ (L (c + 1) = true → L c = true) ∧ W = if L (c + 1) = true then W4 else if L c = true then Wa else W3
theorem WdA.cell {c : Nat} {W3 Wa W4 : World} {L : Nat → Bool} {W : World} (h : WdA c W3 Wa W4 L W) {a : Addr} {v : Value} (h3 : W3.cell? a = some v) (ha : Wa.cell? a = some v) (h4 : W4.cell? a = some v) : W.cell? a = some v := by
  rw [h.2.2]
  split
  · exact h4
  · split
    · exact ha
    · exact h3
theorem upd_ne {L : Nat → Bool} {i j : Nat} (h : j ≠ i) : upd L i j = L j := by simp [upd, h]
theorem upd_eq {L : Nat → Bool} {i : Nat} : upd L i i = true := by simp [upd]
theorem upd_mono {L : Nat → Bool} {i j : Nat} (h : L j = true) : upd L i j = true := by simp [upd, h]
theorem WdA.pure {c : Nat} {W3 Wa W4 : World} {L : Nat → Bool} {W : World} (h : WdA c W3 Wa W4 L W) (i : Nat) (hi : i ≠ c ∧ i ≠ c + 1 ∧ i ≠ c + 2) : WdA c W3 Wa W4 (upd L i) W := by
  unfold WdA
  rw [upd_ne (j := c + 2) (by omega), upd_ne (j := c + 1) (by omega), upd_ne (j := c) (by omega)]
  exact ⟨fun q => upd_mono (h.1 q), h.2.1, h.2.2⟩
theorem WdA.last {c : Nat} {W3 Wa W4 : World} {L : Nat → Bool} {W : World} (h : WdA c W3 Wa W4 L W) (h0 : L 0 = true) : WdA c W3 Wa W4 (upd L (c + 2)) W := by
  unfold WdA
  rw [upd_ne (j := c + 1) (by omega), upd_ne (j := c) (by omega)]
  exact ⟨fun _ => upd_mono h0, h.2.1, h.2.2⟩
theorem WdA.first {c : Nat} {W3 Wa W4 : World} {L : Nat → Bool} {W : World} (h : WdA c W3 Wa W4 L W) (hc : L c = false) : W = W3 ∧ WdA c W3 Wa W4 (upd L c) Wa := by
  have h1 : ¬ L (c + 1) = true := fun q => by rw [h.2.1 q] at hc; cases hc
  refine ⟨by rw [h.2.2, if_neg h1, if_neg (by rw [hc]; simp)], ?_⟩
  unfold WdA
  rw [upd_ne (j := c + 2) (by omega), upd_ne (j := c + 1) (by omega), upd_eq, if_neg h1]
  exact ⟨fun q => upd_mono (h.1 q), fun _ => rfl, rfl⟩
theorem WdA.second {c : Nat} {W3 Wa W4 : World} {L : Nat → Bool} {W : World} (h : WdA c W3 Wa W4 L W) (hc : L (c + 1) = false) (h2 : L c = true) : W = Wa ∧ WdA c W3 Wa W4 (upd L (c + 1)) W4 := by
  have h1 : ¬ L (c + 1) = true := fun q => by rw [q] at hc; cases hc
  refine ⟨by rw [h.2.2, if_neg h1, if_pos h2], ?_⟩
  unfold WdA
  rw [upd_ne (j := c + 2) (by omega), upd_eq, upd_ne (j := c) (by omega)]
  exact ⟨fun q => upd_mono (h.1 q), fun _ => h2, rfl⟩
theorem WdA.start {c : Nat} (W3 Wa W4 : World) : WdA c W3 Wa W4 (fun _ => false) W3 := ⟨(fun q => nomatch q), (fun q => nomatch q), rfl⟩
theorem fd_len (p : Ps) (s : Bs) (l : List Ms) : (fd p s l).2.1.length ≤ l.length + s.length := by
  induction s generalizing p l with
  | nil => simp [fd]
  | cons b s ih =>
    simp only [fd]
    split
    · simp
    · split
      · have := ih p0 (l ++ [(step opM p b).1.ms])
        simp at this ⊢
        omega
      · have := ih (step opM p b).1 l
        simp at this ⊢
        omega
theorem whole_get {R P k : Nat} {p q : Ps} {s : Bs} {O O' M : Nat → Prop} {w wr w2 : World} {l : List (Ms × Value)} {V : Value} (h : Fdj R P p s O w k q l O' M V wr) (hk : k < s.length) (ht : Tk 47 P (step opM q s[k]) O' wr w2) (he : (step opM q s[k]).2 = 0) :
    ∃ (O2 : Nat → Prop) (nx : Value) (pa : Option Addr) (ca : Nat), PAt 47 P (step opM q s[k]).1 nx (.slice pa (step opM q s[k]).1.hs.length ca) w2 ∧ (∀ j, O2 j → O' j ∨ wr.heap.size ≤ j) ∧ O2 P ∧ (∀ j, (Value.slice pa (step opM q s[k]).1.hs.length ca).ownBlock = some j → O2 j) ∧ MAt V l M w2 ∧ w2.heap[R]? = some (.cells #[ptr P] 84 (0, 0)) := by
  obtain ⟨O2, ⟨⟨nx, hv, a1, a2, _⟩, a3, _⟩, a4⟩ := ht.ok he
  obtain ⟨pa, ca, rfl⟩ := owns_form a1.hrow
  exact ⟨O2, nx, pa, ca, a1, a4, a3, a2, h.mat2 ht.only, h.rb2 ht.only⟩
/-- What holds behind the append of a message. -/
structure FedA (R P : Nat) (p' : Ps) (nx hv V : Value) (w2 W4 : World) (F : Nat) (o : Obj) : Prop where
  pat : PAt 47 P p' nx hv W4
  rb : W4.heap[R]? = some (.cells #[ptr P] 84 (0, 0))
  fb : W4.heap[F]? = some o
  b3 : Below w2.heap.size w2 (w2.alloc o).drew
  pat3 : PAt 47 P p' nx hv (w2.alloc o).drew
  rb3 : (w2.alloc o).drew.heap[R]? = some (.cells #[ptr P] 84 (0, 0))
  cl : ∀ g j v oa, (g = P ∨ g = R ∨ g = F) → (w2.alloc o).drew.cell? ⟨g, j, none⟩ = some v → ∀ L W, WdA 20 (w2.alloc o).drew ((w2.alloc o).drew.alloc oa) W4 L W → W.cell? ⟨g, j, none⟩ = some v
theorem append_any (T tt : TypeId) (x y : Value) : Builtin.append_ #[T, T] tt #[x, y] = Builtin.append_ #[T, T] T #[x, y] := rfl
theorem Feda {R P k : Nat} {p q p' : Ps} {s : Bs} {O O' M O2 : Nat → Prop} {w wr w2 W4 : World} {l : List (Ms × Value)} {V nx hv : Value} (hp : PAt 47 P p' nx hv w2) (hm : MAt V l M w2) (hr : w2.heap[R]? = some (.cells #[ptr P] 84 (0, 0))) (aP : O2 P) (aH : ∀ j, hv.ownBlock = some j → O2 j) (h : Fdj R P p s O w k q l O' M V wr) (a2 : ∀ j, O2 j → O' j ∨ wr.heap.size ≤ j) (o : Obj) (h4 : Only (fun j => V.ownBlock = some j) (w2.alloc o).drew W4) : FedA R P p' nx hv V w2 W4 w2.heap.size o := by
  have b3 : Below w2.heap.size w2 (w2.alloc o).drew := ((Below.refl _ _).alloc (Nat.le_refl _) _).drew
  have dM : ∀ j, O2 j → ¬ M j := fun j hj hm => by
    rcases a2 j hj with q | q
    · exact h.s3 j q hm
    · have := h.mat.lt j hm; omega
  have sz : w2.heap.size < (w2.alloc o).drew.heap.size := by simp
  refine ⟨(hp.below b3).keep h4 (fun e => dM P aP (h.mat.inV P e)) (fun j hj e => dM j (aH j hj) (h.mat.inV j e)), ?_, ?_, b3, hp.below b3, (b3.block R (lt_of_row hr)).trans hr, ?_⟩
  · have e3 := (b3.block R (lt_of_row hr)).trans hr
    exact (h4.block R (lt_of_row e3) (fun e => h.s5 (h.mat.inV R e))).trans e3
  rotate_left
  · intro g j v oa hg hc L W hW
    have hgs : g < (w2.alloc o).drew.heap.size := blk_lt hc
    have hgV : ¬ V.ownBlock = some g := by
      rcases hg with rfl | rfl | rfl
      · exact fun e => dM _ aP (h.mat.inV _ e)
      · exact fun e => h.s5 (h.mat.inV _ e)
      · exact fun e => by have := hm.lt _ (hm.inV _ e); omega
    refine hW.cell hc ?_ ((World.cell?_of_block (h4.block g hgs hgV)).trans hc)
    exact (World.cell?_of_block (heap_alloc_old _ _ hgs)).trans hc
  · have e3 : (w2.alloc o).drew.heap[w2.heap.size]? = some o := heap_alloc_new _ _
    refine (h4.block w2.heap.size sz (fun e => ?_)).trans e3
    have := hm.lt _ (hm.inV _ e)
    omega
set_option maxHeartbeats 16000000 in
set_option maxRecDepth 8000 in
theorem feed_loop {B R P : Nat} {p : Ps} {O O0 : Nat → Prop} {w : World} (s : Bs) (h0 : Fdj R P p s O w 0 p [] O0 (fun _ => False) (.slice none 0 0) w) (hE : Env B w) (hB : ∀ k, O k → B ≤ k) (hp : p.st ≤ 2) (hs : s.length ≤ 1000000000000) (hrd : p.rd + s.length ≤ 4000000000000000000) :
    Calls Tryz.prog 21 #[ptr R, S s] w fun e w' => ∃ V, e = .returned (.tuple #[V, .int .i64 (fd p s []).2.2]) ∧ Fed R (fd p s []) O V w w' := by
  have c0 : w.cell? ⟨R, 0, none⟩ = some (ptr P) := cell_of_row w R 0 _ 84 (0, 0) h0.rb
  have c3 : w.cell? ⟨P, 0, none⟩ = some (.int .i64 p.st) := by
    obtain ⟨⟨nx, hv, a, _⟩, _, _⟩ := h0.par
    exact a.cell 0
  have h4 : ¬ (p.st : Int) = 4 := by omega
  have h4b : ((p.st : Int) == 4) = false := by simpa using h4
  have H0 := hide h0
  have HE := hide hE
  clear h0 hE
  go_enter Tryz.func21, Tryz.ntmps21
  go_wp2
  go_loopw [6, 20] (fun V i wr => ∃ k : Nat, k ≤ s.length ∧ i = .int .i64 k ∧ ∃ q l O' M, Fdj R P p s O w k q l O' M V wr) (fun _ i _ => s.length - (Go.RowKit.intOf i).toNat)
  case atStart => exact ⟨0, by omega, rfl, _, _, _, _, unhide H0⟩
  case round =>
    obtain ⟨k, hk, rfl, q, l, O', M, hi⟩ := hrel
    clear H0 c0 c3
    by_cases hlt : k < s.length
    · have hi := hi.drew
      have hfr := fd_rd p (s.take k) [] (by omega) (by rw [hi.fdq])
      rw [hi.fdq, List.length_take] at hfr
      have hqrd : q.rd ≤ 4000000000000000000 := by have := hfr.1; simp only at this; omega
      have HT := hide (take47_any hi.par ((unhide HE).only hi.only hB) (fun j hj => by rcases hi.s1 j hj with q | q; exact hB j q; exact Nat.le_trans (unhide HE).le q) hi.ok hqrd s[k])
      have HI := hide hi
      have c0 : wr.cell? ⟨R, 0, none⟩ = some (ptr P) := cell_of_row wr R 0 _ 84 (0, 0) hi.rb
      have hsz : k < (ByteArray.mk s.toArray).size := by simpa [ByteArray.size] using hlt
      have hC : (ByteArray.mk s.toArray)[k]'hsz = s[k] := rfl
      have hki : (k : Int) < (s.length : Int) := by omega
      have HERR := hide (fun w2 h1 h2 => hi.err (w2 := w2) hlt h1 h2)
      have HGO := hide (fun w2 h1 h2 h3 => hi.go (w2 := w2) hlt h1 h2 h3)
      clear hi hfr
      by_cases hJ : (step opM q s[k]).2 = 0
      · have iJ : (((step opM q s[k]).2 : Nat) : Int) = 0 := by omega
        have HJ := hide hJ
        clear HERR hJ
        by_cases h3 : (step opM q s[k]).1.st = 3
        · have HD := hide (fun w2 (h1 : Tk 47 P (step opM q s[k]) O' wr.drew w2) => @Fdj.done _ _ _ _ _ _ _ _ _ _ _ _ _ _ (unhide HI) hlt h1 (unhide HJ) h3)
          have HTK := hide (fun w2 (h1 : Tk 47 P (step opM q s[k]) O' wr.drew w2) => whole_get (unhide HI) hlt h1 (unhide HJ))
          clear HGO
          obtain ⟨pv, cv, hpv⟩ := owns_form (unhide HI).mat.row
          have hll := fd_len p (s.take k) []
          rw [(unhide HI).fdq, List.length_map, List.length_take] at hll
          have hll2 : l.length ≤ 1000000000000 := by simp at hll; omega
          subst hpv
          have i3 : (((step opM q s[k]).1.st : Nat) : Int) = 3 := by omega
          clear h3 hll
          generalize s[k] = b at *
          generalize step opM q b = J at *
          go_wp2
          go_region_with (go_at_call 48; refine (unhide HT).mono ?_; rintro e w2 ⟨rfl, ht⟩)
          all_goals (
            obtain ⟨O2, nx, pa, ca, hp2, a2, aP, aH, hrow2, crb⟩ := unhide HTK w2 ht
            have c02 : w2.cell? ⟨R, 0, none⟩ = some (ptr P) := cell_of_row w2 R 0 _ 84 (0, 0) crb
            have c32 : w2.cell? ⟨P, 0, none⟩ = some (.int .i64 J.1.st) := hp2.cell 0
            have c42 : w2.cell? ⟨P, 4, none⟩ = some (S J.1.fs.m) := hp2.cell 4
            have c52 : w2.cell? ⟨P, 5, none⟩ = some (S J.1.fs.p) := hp2.cell 5
            have c62 : w2.cell? ⟨P, 6, none⟩ = some (.int .i64 J.1.fs.s) := hp2.cell 6
            have c72 : w2.cell? ⟨P, 7, none⟩ = some (.slice pa J.1.hs.length ca) := hp2.cell 7
            have c92 : w2.cell? ⟨P, 9, none⟩ = some (S (bdv J.1)) := hp2.cell 9
            have hb3 : bdv J.1 = J.1.bd := by unfold bdv; rw [if_pos (by omega)]
            rw [hb3] at c92
            have lP := hp2.lt
            have lR := lt_of_row crb
            have hb3 := hide hb3
            go_wp2)
          all_goals (
            have HR3 : ((w2.alloc (.cells #[S J.1.fs.m, S J.1.fs.p, .int .i64 J.1.fs.s] 89)).drew).ownsRow 0 24 4 (.slice pv l.length cv) l.length (cellsM l) := owns_same (owns_alloc hrow2.row _) (fun _ _ => rfl)
            have HR3 := hide HR3
            have HP2 := hide hp2
            have HA := hide (And.intro a2 (And.intro aP aH))
            have HROW2 := hide hrow2
            have HT2 := hide ht
            clear hp2 a2 aP aH hrow2 ht)
          all_goals (
            obtain ⟨pb, cb, W4, hr4, ho4, hw4, hn4⟩ := app_own 54 24 54 _ 4 72 Tryz.underlying54 info24 rfl (by decide) (.slice pv l.length cv) l.length (cellsM l) ((w2.alloc (.cells #[S J.1.fs.m, S J.1.fs.p, .int .i64 J.1.fs.s] 89)).drew) (unhide HR3) [S J.1.fs.m, S J.1.fs.p, .slice pa J.1.hs.length ca, S J.1.bd] rfl (by intro u hu; simp at hu; rcases hu with rfl | rfl | rfl | rfl <;> rfl) (by omega) (by omega)
            have W4A := hide (Feda (unhide HP2) (unhide HROW2) crb (unhide HA).2.1 (unhide HA).2.2 (unhide HI) (unhide HA).1 (.cells #[S J.1.fs.m, S J.1.fs.p, .int .i64 J.1.fs.s] 89) hw4)
            have hsz3 : ((w2.alloc (.cells #[S J.1.fs.m, S J.1.fs.p, .int .i64 J.1.fs.s] 89)).drew).heap.size = w2.heap.size + 1 := by simp
            rw [hsz3] at hr4
            have HR4 := hide (fun tt => (append_any 54 tt (.slice pv l.length cv) (.slice (some ⟨w2.heap.size + 1, 0, none⟩) 1 1)).symm ▸ hr4)
            have HF4 := hide (And.intro ho4 (And.intro hw4 hn4))
            clear hr4 ho4 hw4 hn4
            refine rfd R P w2.heap.size (w2.heap.size + 1) l.length cv J.1.hs.length ca pv pa J.1.fs.m J.1.fs.p J.1.bd (.slice pb (l.length + 1) cb) rfl rfl rfl _ _ (show 72 ≤ 79 from by decide) rfl rfl rfl (WdA 20 ((w2.alloc (.cells #[S J.1.fs.m, S J.1.fs.p, .int .i64 J.1.fs.s] 89)).drew) (((w2.alloc (.cells #[S J.1.fs.m, S J.1.fs.p, .int .i64 J.1.fs.s] 89)).drew).alloc (.cells #[S J.1.fs.m, S J.1.fs.p, .slice pa J.1.hs.length ca, S J.1.bd] 24)) W4) ?_ ?_ ?_ ?_ ?_ ?_ ?_ ?_ ?_ ?_ ?_ ?_ ?_
            · exact WdA.start _ _ _
            · exact fun i hi L W hW => hW.pure i (by simp at hi; omega)
            · exact fun L W hW => hW.1
            · exact fun L W hW h => hW.last h
            · exact fun L W hW => (unhide W4A).cl w2.heap.size 0 _ _ (.inr (.inr rfl)) (cell_of_row _ _ 0 _ 89 (0, 0) (heap_alloc_new w2 _)) L W hW
            · exact fun L W hW => (unhide W4A).cl w2.heap.size 1 _ _ (.inr (.inr rfl)) (cell_of_row _ _ 1 _ 89 (0, 0) (heap_alloc_new w2 _)) L W hW
            · exact fun L W hW => (unhide W4A).cl R 0 _ _ (.inr (.inl rfl)) (cell_of_row _ _ 0 _ 84 (0, 0) (unhide W4A).rb3) L W hW
            · exact fun L W hW => (unhide W4A).cl R 0 _ _ (.inr (.inl rfl)) (cell_of_row _ _ 0 _ 84 (0, 0) (unhide W4A).rb3) L W hW
            · exact fun L W hW => (unhide W4A).cl P 7 _ _ (.inl rfl) ((unhide W4A).pat3.cell 7) L W hW
            · exact fun L W hW => (unhide W4A).cl P 9 _ _ (.inl rfl) (((unhide W4A).pat3.cell 9).trans (by show some (S (bdv J.1)) = _; rw [unhide hb3])) L W hW
            · intro L W hW h
              obtain ⟨e, q⟩ := hW.first h
              subst e
              exact ⟨q, hsz3⟩
            · intro tt L W hW h _ h2
              obtain ⟨e, q⟩ := hW.second h h2
              subst e
              exact ⟨W4, unhide HR4 tt, q⟩
            intro L W hall hW
            have hW4 : W4 = W := by rw [hW.2.2, if_pos (hall 21 (by decide))]
            subst hW4
            clear hall hW hsz3
            simp only [Act.put, List.setIfInBounds_toArray, List.set_cons_succ, List.set_cons_zero]
            have c04 : W4.cell? ⟨R, 0, none⟩ = some (ptr P) := cell_of_row W4 R 0 _ 84 (0, 0) (unhide W4A).rb
            have HBG := hide (begin_any (unhide W4A).pat)
            go_wp2_with fail
            refine (unhide HBG).mono ?_
            rintro e w5 ⟨rfl, hx5, ho5⟩
            have HX5 := hide (And.intro hx5 ho5)
            clear hx5 ho5
            go_wp2
            go_roundw
            case rel =>
              obtain ⟨⟨O5, p5, s5⟩, o5⟩ := unhide HX5
              obtain ⟨l', M', hd⟩ := unhide HD w2 (unhide HT2) (unhide HP2) (unhide HA).1 (unhide HA).2.1 (unhide HA).2.2 (unhide W4A).b3 (unhide HF4).1 (unhide HF4).2.1 (unhide HF4).2.2 p5 s5 o5
              exact ⟨k + 1, by omega, by go_num, _, _, _, _, hd⟩
            case measure => simp [Go.RowKit.intOf]; omega)
        · have HGO2 := hide (fun w2 h1 => unhide HGO w2 h1 (unhide HJ) h3)
          have i3 : ¬ (((step opM q s[k]).1.st : Nat) : Int) = 3 := by omega
          clear HGO
          generalize s[k] = b at *
          generalize step opM q b = J at *
          go_wp2
          go_region_with (go_at_call 48; refine (unhide HT).mono ?_; rintro e w2 ⟨rfl, ht⟩)
          all_goals (
            obtain ⟨O2, hgo⟩ := unhide HGO2 w2 ht
            have HG := hide hgo
            have c02 : w2.cell? ⟨R, 0, none⟩ = some (ptr P) := cell_of_row w2 R 0 _ 84 (0, 0) hgo.rb
            have c32 : w2.cell? ⟨P, 0, none⟩ = some (.int .i64 J.1.st) := by
              obtain ⟨⟨nx, hv, a, _⟩, _, _⟩ := hgo.par
              exact a.cell 0
            clear hgo ht
            go_wp2)
          all_goals (
            go_roundw
            case rel => exact ⟨k + 1, by omega, by go_num, _, _, _, _, unhide HG⟩
            case measure => simp [Go.RowKit.intOf]; omega)
      · have iJ : ¬ (((step opM q s[k]).2 : Nat) : Int) = 0 := by omega
        have HERR2 := hide (fun w2 h1 => unhide HERR w2 h1 hJ)
        clear HGO HERR hJ
        generalize s[k] = b at *
        generalize step opM q b = J at *
        go_wp2
        go_region_with (go_at_call 48; refine (unhide HT).mono ?_; rintro e w2 ⟨rfl, ht⟩)
        all_goals (
          have HG := hide (unhide HERR2 w2 ht)
          clear ht
          go_wp2
          go_ret2)
        all_goals exact ⟨_, by rw [(unhide HG).1]; rfl, (unhide HG).2⟩
    · have hd : decide (k < s.length) = false := by simp; omega
      have HG := hide (hi.end (by omega))
      clear hi
      go_wp2
      go_ret2
      exact ⟨_, by rw [(unhide HG).1]; rfl, (unhide HG).2⟩
theorem feed_any {B R : Nat} {p : Ps} {O : Nat → Prop} {w : World} (h : Rdr R p O w) (hE : Env B w) (hB : ∀ k, O k → B ≤ k) (s : Bs) (hs : s.length ≤ 1000000000000) (hrd : p.rd + s.length ≤ 4000000000000000000) :
    Calls Tryz.prog 21 #[ptr R, S s] w fun e w' => ∃ V, e = .returned (.tuple #[V, .int .i64 (feed p s).2.2]) ∧ Fed R (feed p s) O V w w' := by
  obtain ⟨⟨P, h1, h2⟩, h3, h4⟩ := h
  rcases h2 with ⟨a1, O1, a2, a3, a4⟩ | ⟨rfl, a2, a3⟩
  · have e : feed p s = fd p s [] := by unfold feed; rw [if_neg (by have := a1.1; omega)]
    rw [e]
    refine feed_loop (P := P) (O0 := O1) s ⟨by simp [fd], a1, a2, MAt.nil w, fun j hj => .inl (a3 j hj), fun _ q => q.elim, fun _ _ q => q, a4, fun q => q, h1, Only.refl _ _, h3⟩ hE hB a1.1 hs hrd
  · have e : feed pov s = (pov, [], 54) := rfl
    rw [e]
    refine (feed_over (R := R) (O := O) (w := w) ⟨⟨P, h1, .inr ⟨rfl, a2, a3⟩⟩, h3, h4⟩ s).mono ?_
    rintro e w' ⟨rfl, rfl⟩
    exact ⟨_, rfl, ⟨⟨[], O, fun _ => False, rfl, MAt.nil w', ⟨⟨P, h1, .inr ⟨rfl, a2, a3⟩⟩, h3, h4⟩, fun j hj => .inl hj, fun _ q => q.elim, fun _ _ q => q⟩, Only.refl _ _⟩⟩
end Go.Proofs.YthlacailhfhjnaaGreatDoor
