import Derived.Test.YtjopnhhdemfniaaGreatDoorPgb
import Derived.Test.YtjopnhhdemfniaaGreatDoorZdsc
namespace Go.Proofs.YtjopnhhdemfniaaGreatDoor
open Go.RowKit
set_option maxHeartbeats 4000000
set_option maxRecDepth 8000
/-- A Writer that came behind w0, and has laid X without a fault. -/
def Wt (w0 : World) (b : Nat) (X : Bs) (w : World) : Prop := ∃ v, WAt b v X 0 w ∧ Below w0.heap.size w0 w ∧ w0.heap.size ≤ b ∧ ∀ k, v.ownBlock = some k → w0.heap.size ≤ k
theorem Wt.to {w0 w w' : World} {b : Nat} {Y : Bs} {v : Value} (hB : Below w0.heap.size w0 w) (hb : w0.heap.size ≤ b) (hv : ∀ k, v.ownBlock = some k → w0.heap.size ≤ k) (h : WTo b v Y 0 w w') : Wt w0 b Y w' := by
  obtain ⟨v', h1, h2, h3⟩ := h
  refine ⟨v', h1, h2.below hB hB.size (fun k hk => ?_), hb, fun k hk => ?_⟩
  · rcases hk with rfl | hk
    · exact hb
    · exact hv k hk
  · rcases h3 k hk with q | q
    · exact hv k q
    · exact Nat.le_trans hB.size q
theorem Wt.new (w0 : World) : Calls Tryz.prog 70 #[] w0 fun e w' => e = .returned (ptr w0.heap.size) ∧ Wt w0 w0.heap.size [] w' := by
  refine (newwriter_any w0).mono ?_
  rintro e w' ⟨rfl, h1, h2⟩
  exact ⟨rfl, _, h1, h2, Nat.le_refl _, fun k hk => by cases hk⟩
theorem Wt.num {w0 w : World} {b : Nat} {X : Bs} (h : Wt w0 b X w) (size : Nat) (n : Int) (s1 : 1 ≤ size) (s8 : size ≤ 8) (n0 : 0 ≤ n) (n1 : n < 256 ^ size) (n2 : n ≤ 9223372036854775807) (hX : X.length ≤ 1000000000) :
    Calls Tryz.prog 72 #[ptr b, I size, I n] w fun e w' => e = .returned (.tuple #[]) ∧ Wt w0 b (X ++ be size n.toNat) w' := by
  obtain ⟨v, h1, h2, h3, h4⟩ := h
  refine (wnum_any b v X 0 size n w h1 n2 (by omega)).mono ?_
  rintro e w' ⟨rfl, hw⟩
  have e1 : numE size n = 0 := by
    have : stnB (size : Int).toNat n = true := by simp [stnB, n0]; exact n1
    unfold numE
    rw [if_pos ⟨by omega, by omega⟩, if_pos this]
  rw [e1, wPut_ok] at hw
  have e2 : numY size n = be size n.toNat := by simp [numY]
  rw [e2] at hw
  exact ⟨rfl, Wt.to h2 h3 h4 hw⟩
theorem Wt.raw {w0 w : World} {b : Nat} {X : Bs} (h : Wt w0 b X w) (s : Bs) (hX : X.length + s.length ≤ 1000000000) :
    Calls Tryz.prog 71 #[ptr b, S s] w fun e w' => e = .returned (.tuple #[]) ∧ Wt w0 b (X ++ s) w' := by
  obtain ⟨v, h1, h2, h3, h4⟩ := h
  refine (wraw_any b v X 0 s w h1 (by omega)).mono ?_
  rintro e w' ⟨rfl, hw⟩
  rw [wPut_ok] at hw
  exact ⟨rfl, Wt.to h2 h3 h4 hw⟩
theorem Wt.done {w0 w : World} {b : Nat} {X : Bs} (h : Wt w0 b X w) :
    Calls Tryz.prog 73 #[ptr b] w fun e w' => e = .returned (.tuple #[S X, I 0]) ∧ Below w0.heap.size w0 w' := by
  obtain ⟨v, h1, h2, h3, h4⟩ := h
  refine (wdone_ok b v X w h1).mono ?_
  rintro e w' ⟨rfl, hw⟩
  exact ⟨rfl, h2.trans (hw.mono h2.size)⟩
theorem Wt.below {w0 w : World} {b : Nat} {X : Bs} (h : Wt w0 b X w) : Below w0.heap.size w0 w := by
  obtain ⟨v, h1, h2, h3, h4⟩ := h
  exact h2
/-- What was laid is kept by whatever leaves the old blocks. -/
theorem Wt.keep {w0 w w' : World} {b : Nat} {X : Bs} (h : Wt w0 b X w) (k : Below w.heap.size w w') : Wt w0 b X w' := by
  obtain ⟨v, h1, h2, h3, h4⟩ := h
  exact ⟨v, h1.keep (Only.of_below (P := fun _ => False) k) (fun q => q) (fun _ _ q => q), h2.trans (k.mono h2.size), h3, h4⟩
theorem lks_next (l : List Int) (k : Nat) (hk : k < l.length) : lks (l.take (k + 1)) = lks (l.take k) ++ be 4 (l.getD k 0).toNat := by
  rw [List.take_succ_eq_append_getElem hk]
  unfold lks
  rw [List.flatMap_append]
  simp [hk]
theorem all_at (l : List Int) (h : l.all isPg = true) (k : Nat) (hk : k < l.length) : 2 ≤ l.getD k 0 ∧ l.getD k 0 < 4096 := by
  have := List.all_eq_true.1 h (l.getD k 0) (by rw [List.getD_eq_getElem?_getD, List.getElem?_eq_getElem hk]; exact List.getElem_mem hk)
  simpa [isPg] using this
theorem numbersI_any {w0 w : World} {b : Nat} {X : Bs} (h : Wt w0 b X w) (a : Option Addr) (n cap : Nat) (l : List Int) (hp : Ins w0 a n l) (hg : l.all isPg = true) (hn : n ≤ 1000) (hX : X.length ≤ 1000) :
    Calls Tryz.prog 135 #[ptr b, I 4, .slice a n cap] w fun e w' => e = .returned (.tuple #[]) ∧ Wt w0 b (X ++ lks l) w' := by
  have hN := hp.1
  subst hN
  have HP := hide hp
  have HW := hide h
  have HG := hide hg
  clear h hp hg
  go_enter Tryz.func135, Tryz.ntmps135
  go_wp2
  go_loopw [10] (fun i wr => ∃ k : Nat, k ≤ l.length ∧ i = .int .i64 k ∧ Wt w0 b (X ++ lks (l.take k)) wr) (fun i _ => l.length - (Go.RowKit.intOf i).toNat)
  case atStart => exact ⟨0, by omega, rfl, by simpa [lks] using unhide HW⟩
  case round =>
    obtain ⟨k, hk, rfl, hw⟩ := hrel
    by_cases hlt : k < l.length
    · have hB := hw.below
      obtain ⟨p, o, rfl, hpl, hc0⟩ := ((unhide HP).below hB).at hlt
      have hlt' : (k : Int) < (l.length : Int) := by omega
      obtain ⟨g1, g2⟩ := all_at l (unhide HG) k hlt
      have hlen : (X ++ lks (l.take k)).length ≤ 1000000000 := by
        rw [List.length_append, lks_len, List.length_take]; omega
      have H1 := hide (hw.num 4 (l.getD k 0) (by omega) (by omega) (by omega) (by omega) (by omega) hlen)
      have HN := hide (lks_next l k hlt)
      generalize l.getD k 0 = x at *
      clear hw hB hlen
      go_wp2_with fail
      refine (unhide H1).mono ?_
      rintro e w2 ⟨rfl, h2⟩
      rw [List.append_assoc, ← unhide HN] at h2
      have H2 := hide h2
      clear h2
      go_wp2
      go_round
      case measure => simp [Go.RowKit.intOf]; omega
      case rel => exact ⟨k + 1, by omega, by simp, unhide H2⟩
    · have hlt' : ¬ (k : Int) < (l.length : Int) := by omega
      rw [List.take_of_length_le (by omega)] at hw
      have H2 := hide hw
      clear hw
      go_wp2
      go_end0
      exact ⟨rfl, unhide H2⟩
/-- One number of four bytes. -/
theorem numbersU_any {w0 w : World} {b : Nat} {X : Bs} (h : Wt w0 b X w) (x : UInt32) (hX : X.length ≤ 1000000) :
    Calls Tryz.prog 143 #[ptr b, I 4, .slice (some ⟨w.heap.size, 0, none⟩) 1 1] (w.alloc (.cells #[.int .u32 (u x)] 118)) fun e w' => e = .returned (.tuple #[]) ∧ Wt w0 b (X ++ be 4 x.toNat) w' := by
  have h2 := h.keep ((Below.refl _ _).alloc (Nat.le_refl _) (.cells #[.int .u32 (u x)] 118))
  have hc : (w.alloc (.cells #[.int .u32 (u x)] 118)).cell? ⟨w.heap.size, 0, none⟩ = some (.int .u32 (u x)) := cell_of_row _ _ 0 _ 118 (0, 0) (heap_alloc_new _ _)
  have hu0 := u_lo x
  have hu1 := u_hi x
  have H1 := hide (h2.num 4 (u x) (by omega) (by omega) (by omega) (by omega) (by omega) (by omega))
  have HU : (u x).toNat = x.toNat := by unfold u; omega
  rw [HU] at H1
  clear h h2 HU
  generalize u x = z at *
  generalize w.heap.size = g at *
  generalize w.alloc _ = W at *
  go_enter Tryz.func143, Tryz.ntmps143
  go_wp2
  go_loopw [10] (fun i wr => (i = .int .i64 0 ∧ wr = W) ∨ (i = .int .i64 1 ∧ Wt w0 b (X ++ be 4 x.toNat) wr)) (fun i _ => (1 : Nat) - (Go.RowKit.intOf i).toNat)
  case atStart => exact .inl ⟨rfl, rfl⟩
  case round =>
    rcases hrel with ⟨rfl, hw⟩ | ⟨rfl, hw⟩
    · subst hw
      go_wp2_with fail
      refine (unhide H1).mono ?_
      rintro e w2 ⟨rfl, h2⟩
      have H2 := hide h2
      clear h2
      go_wp2
      go_round
      case measure => simp [Go.RowKit.intOf]
      case rel => exact .inr ⟨rfl, unhide H2⟩
    · have H2 := hide hw
      clear hw
      go_wp2
      go_end0
      exact ⟨rfl, unhide H2⟩
theorem repeat_zero (c : Nat) : Lib.repeatL [(0 : UInt8)] c = List.replicate c 0 := by
  induction c with
  | zero => rfl
  | succ c ih => first | (simp [Lib.repeatL, List.replicate_succ] at ih ⊢; done) | (simp [Lib.repeatL, List.replicate_succ] at ih ⊢; exact ih)
theorem filled_any (s : Bs) (n : Nat) (w : World) (hs : s.length ≤ n) (hn : n ≤ 1000) : Calls Tryz.prog 74 #[S s, I n] w fun e w' => e = .returned (S (fil s n)) ∧ Below w.heap.size w w' := by
  have H := hide (Tryz.strings_Repeat ⟨#[0]⟩ (n - s.length) w (by omega) (by simp [ByteArray.size]; omega))
  have hi : ((n : Int) - (s.length : Int)) = ((n - s.length : Nat) : Int) := by omega
  have HR := hide (repeat_zero (n - s.length))
  have hlen : ¬ 9223372036854775807 < List.length s + (Lib.repeatL [(0 : UInt8)] (n - s.length)).length := by
    rw [repeat_zero, List.length_replicate]; omega
  have hi2 : (n : Int) - (s.length : Int) ≤ 1000 := by omega
  have hi3 : 0 ≤ (n : Int) - (s.length : Int) := by omega
  go_enter Tryz.func74, Tryz.ntmps74
  go_wp2_with fail
  refine (unhide H).mono ?_
  rintro e w1 ⟨rfl, b1⟩
  have HB := hide b1
  clear b1
  go_wp2
  go_ret
  refine ⟨?_, unhide HB⟩
  have e := unhide HR
  unfold fil
  refine congrArg (fun x => Ending.returned (Value.string x)) ?_
  rw [e]
  apply ByteArray.ext
  simp [ByteArray.data_append]
theorem checked_any (s : Bs) (w : World) (hs : s.length ≤ 1000) : Calls Tryz.prog 75 #[S s] w fun e w' => e = .returned (S (chk s)) ∧ Below w.heap.size w w' := by
  have H0 := hide (Wt.new w)
  have HC := hide (fun W => crc_any s W (by omega))
  go_enter Tryz.func75, Tryz.ntmps75
  go_wp2_with fail
  refine (unhide H0).mono ?_
  rintro e w1 ⟨rfl, h1⟩
  have H1 := hide (h1.raw s (by simp; omega))
  clear h1
  go_wp2_with fail
  refine (unhide H1).mono ?_
  rintro e w2 ⟨rfl, h2⟩
  have H2 := hide (numbersU_any h2 (crc s) (by simp; omega))
  clear h2
  go_wp2_with fail
  refine (unhide HC _).mono ?_
  rintro e w0 ⟨rfl, rfl⟩
  go_wp2_with fail
  refine (unhide H2).mono ?_
  rintro e w3 ⟨rfl, h3⟩
  have H3 := hide h3.done
  clear h3
  go_wp2_with fail
  refine (unhide H3).mono ?_
  rintro e w4 ⟨rfl, b4⟩
  have H4 := hide b4
  clear b4
  go_wp2
  go_ret
  exact ⟨rfl, unhide H4⟩
end Go.Proofs.YtjopnhhdemfniaaGreatDoor
namespace Go.Proofs.YtjopnhhdemfniaaGreatDoor
open Go.RowKit
set_option maxHeartbeats 4000000
set_option maxRecDepth 8000
/-- A page as it is handed about. -/
def pga (p : Pg) (a : Option Addr) (cap : Nat) : Value := .agg #[I p.kind, I p.number, I p.birth, .slice a p.links.length cap, S p.body]
def pgc (p : Pg) (a : Option Addr) (cap : Nat) : Array Value := #[I p.kind, I p.number, I p.birth, .slice a p.links.length cap, S p.body]
theorem mayBeFresh_any (p : Pg) (a : Option Addr) (cap : Nat) (w : World) (hl : Ins w a p.links.length p.links) (hn : p.links.length ≤ 1000000000000) (hx : p.body.length ≤ 1000000000000) :
    Calls Tryz.prog 190 #[pga p a cap] w fun e w' => e = .returned (.bool p.fresh) ∧ Below w.heap.size w w' := by
  obtain ⟨k, m, b, l, x⟩ := p
  unfold pga Pg.fresh
  simp only at hl hn hx ⊢
  have HB := hide ((Below.refl w.heap.size w).alloc (Nat.le_refl _) (.cells #[I k, I m, I b, .slice a l.length cap, S x] 24))
  have H1 := hide (fun W => isPage_any m W)
  have H2 := hide (containsFuncI_any a l.length cap l _ (hl.below (unhide HB)) hn)
  clear hl
  generalize l.all isPg = la at *
  generalize isPg m = lm at *
  by_cases h1 : 4 * l.length + x.length ≤ 488
  · by_cases h2 : 1 ≤ k
    · by_cases h3 : k ≤ 255
      · cases lm
        · have h1' : 4 * (l.length : Int) + (x.length : Int) ≤ 488 := by omega
          go_enter Tryz.func190, Tryz.ntmps190
          go_wp2_with (go_at_call 224; refine (unhide H1 _).mono ?_; rintro e w1 ⟨rfl, rfl⟩)
          go_ret
          exact ⟨ret_bool (by simp), unhide HB⟩
        · have h1' : 4 * (l.length : Int) + (x.length : Int) ≤ 488 := by omega
          go_enter Tryz.func190, Tryz.ntmps190
          go_wp2_with (first | (go_at_call 224; refine (unhide H1 _).mono ?_; rintro e w1 ⟨rfl, rfl⟩) | (go_at_call 225; refine (unhide H2).mono ?_; rintro e w1 ⟨rfl, rfl⟩))
          go_ret
          exact ⟨ret_bool (by simp [h1, h2, h3]), unhide HB⟩
      · have h1' : 4 * (l.length : Int) + (x.length : Int) ≤ 488 := by omega
        go_enter Tryz.func190, Tryz.ntmps190
        go_wp2
        go_ret
        exact ⟨ret_bool (by first | (simp; done) | (simp; intros; omega)), unhide HB⟩
    · have h1' : 4 * (l.length : Int) + (x.length : Int) ≤ 488 := by omega
      go_enter Tryz.func190, Tryz.ntmps190
      go_wp2
      go_ret
      exact ⟨ret_bool (by first | (simp; done) | (simp; intros; omega)), unhide HB⟩
  · have h1' : ¬ 4 * (l.length : Int) + (x.length : Int) ≤ 488 := by omega
    go_enter Tryz.func190, Tryz.ntmps190
    go_wp2
    go_ret
    exact ⟨ret_bool (by first | (simp; done) | (simp; intros; omega)), unhide HB⟩
theorem mayBe_any (p : Pg) (a : Option Addr) (cap : Nat) (w : World) (hl : Ins w a p.links.length p.links) (hn : p.links.length ≤ 1000000000000) (hx : p.body.length ≤ 1000000000000) :
    Calls Tryz.prog 134 #[pga p a cap] w fun e w' => e = .returned (.bool p.may) ∧ Below w.heap.size w w' := by
  have HB := hide ((Below.refl w.heap.size w).alloc (Nat.le_refl _) (.cells (pgc p a cap) 24))
  have H1 := hide (fun W => isGeneration_any p.birth W)
  have H2 := hide (mayBeFresh_any p a cap _ (hl.below (unhide HB)) hn hx)
  clear hl
  unfold Pg.may
  generalize p.fresh = lf at *
  obtain ⟨k, m, b, l, x⟩ := p
  unfold pga pgc at *
  simp only at H1 H2 HB ⊢
  cases hb : isGn b
  · rw [hb] at H1
    go_enter Tryz.func134, Tryz.ntmps134
    go_wp2_with (go_at_call 138; refine (unhide H1 _).mono ?_; rintro e w1 ⟨rfl, rfl⟩)
    go_ret
    exact ⟨rfl, unhide HB⟩
  · rw [hb] at H1
    clear hb
    go_enter Tryz.func134, Tryz.ntmps134
    go_wp2_with (go_at_call 138; refine (unhide H1 _).mono ?_; rintro e w1 ⟨rfl, rfl⟩)
    refine (unhide H2).mono ?_
    rintro e w1 ⟨rfl, b1⟩
    have HB1 := hide ((unhide HB).trans (b1.mono (unhide HB).size))
    clear b1
    go_wp2
    go_ret
    exact ⟨ret_bool (by simp), unhide HB1⟩
end Go.Proofs.YtjopnhhdemfniaaGreatDoor
namespace Go.Proofs.YtjopnhhdemfniaaGreatDoor
open Go.RowKit
set_option maxHeartbeats 4000000
set_option maxRecDepth 8000
/-- The cells of a page in its box, in every world that leaves it. -/
theorem box5 {B g : Nat} {a b c d e : Value} {w0 w : World} (h : w0.heap[g]? = some (.cells #[a, b, c, d, e] 24 (0, 0))) (hb : Below B w0 w) (hg : g < B) :
    w.cell? ⟨g, 0, none⟩ = some a ∧ w.cell? ⟨g, 1, none⟩ = some b ∧ w.cell? ⟨g, 2, none⟩ = some c ∧ w.cell? ⟨g, 3, none⟩ = some d ∧ w.cell? ⟨g, 4, none⟩ = some e := by
  have h2 := (hb.block g hg).trans h
  have := fun j => cell_of_row w g j _ 24 (0, 0) h2
  refine ⟨?_, ?_, ?_, ?_, ?_⟩ <;> (rw [this]; rfl)
/-- What PrintPage says. -/
def prn (p : Pg) : Bs × Int := if p.may = true then (p.blk, 0) else ([], 94)
theorem printPage_any (p : Pg) (a : Option Addr) (cap : Nat) (w : World) (hl : Ins w a p.links.length p.links) (hn : p.links.length ≤ 1000000000000) (hx : p.body.length ≤ 1000000000000) :
    Calls Tryz.prog 57 #[pga p a cap] w fun e w' => e = .returned (.tuple #[S (prn p).1, I (prn p).2]) ∧ Below w.heap.size w w' := by
  have bA := (Below.refl w.heap.size w).alloc (Nat.le_refl _) (.cells (pgc p a cap) 24)
  have hg := heap_alloc_new w (.cells (pgc p a cap) 24)
  have hl1 := hl.below bA
  have H0 := hide (mayBe_any p a cap _ hl1 hn hx)
  have hz : w.heap.size < (w.alloc (.cells (pgc p a cap) 24)).heap.size := lt_of_row hg
  unfold prn
  cases hm : p.may
  · rw [hm] at H0
    have HB := hide bA
    clear hl bA hg hl1 hm hz
    unfold pga pgc at *
    go_enter Tryz.func57, Tryz.ntmps57
    go_wp2_with fail
    refine (unhide H0).mono ?_
    rintro e w1 ⟨rfl, b1⟩
    have HB1 := hide ((unhide HB).trans (b1.mono (unhide HB).size))
    clear b1
    go_wp2
    go_ret2
    exact ⟨rfl, unhide HB1⟩
  · rw [hm] at H0
    have hr := Pg.fresh_room (Pg.may_fresh hm)
    have hm2 := hm
    simp only [Pg.may, Pg.fresh, isPg, isGn, Bool.and_eq_true, decide_eq_true_eq] at hm2
    obtain ⟨⟨b1, b2⟩, ⟨⟨⟨_, k1⟩, k2⟩, n1, n2⟩, hall⟩ := hm2
    have HT := hide (show p.text = ([76, 80] ++ be 1 p.kind.toNat ++ be 1 p.links.length ++ be 4 p.number.toNat ++ be 8 p.birth.toNat ++ be 2 p.body.length ++ be 2 0 ++ lks p.links ++ p.body : Bs) from rfl)
    have HTL := hide p.text_len
    have HK := hide (show p.blk = chk (fil p.text 508) from rfl)
    rw [if_pos rfl]
    obtain ⟨k, m, b, l, x⟩ := p
    simp only at hl hn hx hr b1 b2 k1 k2 n1 n2 hall hl1 HT HTL
    generalize Pg.text ⟨k, m, b, l, x⟩ = T at *
    generalize Pg.blk ⟨k, m, b, l, x⟩ = K at *
    unfold pga pgc at *
    simp only at hg bA hl1 H0 hz ⊢
    have HBA := hide bA
    have HG := hide hg
    have HL := hide hl1
    have HAL := hide hall
    have HLS := hide (lks_len l)
    clear hl bA hg hl1 hm hall
    go_enter Tryz.func57, Tryz.ntmps57
    go_wp2_with fail
    refine (unhide H0).mono ?_
    rintro e w1 ⟨rfl, c1⟩
    have b1w := hide c1
    have h1 := hide (Wt.new w1)
    clear c1
    go_wp2_with fail
    refine (unhide h1).mono ?_
    rintro e w2 ⟨rfl, h2⟩
    have H2 := hide (h2.raw [76, 80] (by simp))
    clear h2
    go_wp2_with fail
    refine (unhide H2).mono ?_
    rintro e w3 ⟨rfl, h3⟩
    have hb3 := (unhide b1w).trans (h3.below.mono (unhide b1w).size)
    obtain ⟨d0, d1, d2, d3, d4⟩ := box5 (unhide HG) hb3 hz
    have H3 := hide (h3.num 1 k (by omega) (by omega) (by omega) (by omega) (by omega) (by simp))
    clear h3 hb3
    go_wp2_with fail
    refine (unhide H3).mono ?_
    rintro e w4 ⟨rfl, h4⟩
    clear d0 d1 d2 d3 d4
    have hb3 := (unhide b1w).trans (h4.below.mono (unhide b1w).size)
    obtain ⟨d0, d1, d2, d3, d4⟩ := box5 (unhide HG) hb3 hz
    have H4 := hide (h4.num 1 (l.length : Int) (by omega) (by omega) (by omega) (by omega) (by omega) (by simp [be_len]))
    rw [Int.toNat_natCast] at H4
    clear h4 hb3
    go_wp2_with fail
    refine (unhide H4).mono ?_
    rintro e w5 ⟨rfl, h5⟩
    clear d0 d1 d2 d3 d4
    have hb3 := (unhide b1w).trans (h5.below.mono (unhide b1w).size)
    obtain ⟨d0, d1, d2, d3, d4⟩ := box5 (unhide HG) hb3 hz
    have H5 := hide (h5.num 4 m (by omega) (by omega) (by omega) (by omega) (by omega) (by simp [be_len]))
    clear h5 hb3
    go_wp2_with fail
    refine (unhide H5).mono ?_
    rintro e w6 ⟨rfl, h6⟩
    clear d0 d1 d2 d3 d4
    have hb3 := (unhide b1w).trans (h6.below.mono (unhide b1w).size)
    obtain ⟨d0, d1, d2, d3, d4⟩ := box5 (unhide HG) hb3 hz
    have H6 := hide (h6.num 8 b (by omega) (by omega) (by omega) (by omega) (by omega) (by simp [be_len]))
    clear h6 hb3
    go_wp2_with fail
    refine (unhide H6).mono ?_
    rintro e w7 ⟨rfl, h7⟩
    clear d0 d1 d2 d3 d4
    have hb3 := (unhide b1w).trans (h7.below.mono (unhide b1w).size)
    obtain ⟨d0, d1, d2, d3, d4⟩ := box5 (unhide HG) hb3 hz
    have H7 := hide (h7.num 2 (x.length : Int) (by omega) (by omega) (by omega) (by omega) (by omega) (by simp [be_len]))
    rw [Int.toNat_natCast] at H7
    clear h7 hb3
    go_wp2_with fail
    refine (unhide H7).mono ?_
    rintro e w8 ⟨rfl, h8⟩
    clear d0 d1 d2 d3 d4
    have H8 := hide (h8.num 2 0 (by omega) (by omega) (by omega) (by omega) (by omega) (by simp [be_len]))
    clear h8
    go_wp2_with fail
    refine (unhide H8).mono ?_
    rintro e w9 ⟨rfl, h9⟩
    have hb3 := (unhide b1w).trans (h9.below.mono (unhide b1w).size)
    obtain ⟨d0, d1, d2, d3, d4⟩ := box5 (unhide HG) hb3 hz
    have H9 := hide (numbersI_any h9 a l.length cap l ((unhide HL).below (unhide b1w)) (unhide HAL) (by omega) (by simp [be_len]))
    clear h9 hb3
    go_wp2_with fail
    refine (unhide H9).mono ?_
    rintro e w10 ⟨rfl, h10⟩
    clear d0 d1 d2 d3 d4
    have hb3 := (unhide b1w).trans (h10.below.mono (unhide b1w).size)
    obtain ⟨d0, d1, d2, d3, d4⟩ := box5 (unhide HG) hb3 hz
    have H10 := hide (h10.raw x (by have := unhide HLS; simp [be_len]; omega))
    clear h10 hb3
    go_wp2_with fail
    refine (unhide H10).mono ?_
    rintro e w11 ⟨rfl, h11⟩
    clear d0 d1 d2 d3 d4
    have h12 : Wt w1 w1.heap.size T w11 := by
      rw [unhide HT]
      exact h11
    have H11 := hide h12.done
    clear h11 h12
    go_wp2_with fail
    refine (unhide H11).mono ?_
    rintro e w12 ⟨rfl, c12⟩
    have B12 := hide ((unhide HBA).trans (((unhide b1w).trans (c12.mono (unhide b1w).size)).mono (unhide HBA).size))
    have H12 := hide (filled_any T 508 w12 (by have := unhide HTL; omega) (by omega))
    have HL2 := hide (fil_len T 508 (by have := unhide HTL; omega))
    clear c12
    go_wp2_with fail
    refine (unhide H12).mono ?_
    rintro e w13 ⟨rfl, c13⟩
    have H13 := hide (checked_any (fil T 508) w13 (by have := unhide HL2; omega))
    have B13 := hide ((unhide B12).trans (c13.mono (unhide B12).size))
    clear c13
    go_wp2_with fail
    refine (unhide H13).mono ?_
    rintro e w14 ⟨rfl, c14⟩
    have B14 := hide ((unhide B13).trans (c14.mono (unhide B13).size))
    clear c14
    go_wp2
    go_ret2
    exact ⟨by rw [unhide HK]; rfl, unhide B14⟩
end Go.Proofs.YtjopnhhdemfniaaGreatDoor
