/-
  Contracts of package addr's lastOf, Of4 and Four over this seat's translation; copy as a step of a region.
-/
import Derived.Test.YtlpondbcnfaggaaGreatDoorR01
import Derived.Laws.CopyOwn
namespace Go.Proofs.YtlpondbcnfaggaaGreatDoor.Ad
open Go.RowKit Go.Proofs.YtlpondbcnfaggaaGreatDoor.Wd

theorem info4 : (Tryz.prog.info? 90).map (·.size) = some 4 := by kernel_rfl
theorem und4 : Tryz.prog.underlying 90 = some (.array 4 5) := by kernel_rfl
theorem size8 : (Tryz.prog.info? 5).map (·.size) = some 1 := by kernel_rfl
def lastS (a : List UInt8) : List UInt8 := a.drop 12
def of4S (b : List UInt8) : List UInt8 := [0, 0, 0, 0, 0, 0, 0, 0, 0, 0, 255, 255] ++ b
def fourS (a : List UInt8) : Bool := a == of4S (lastS a)

/-- bytes laid over bytes -/
def splB (l : List UInt8) (off : Nat) (ys : List UInt8) : List UInt8 := l.take off ++ (ys ++ l.drop (off + ys.length))
theorem splB_length (l : List UInt8) (off : Nat) (ys : List UInt8) (h : off + ys.length ≤ l.length) : (splB l off ys).length = l.length := by simp [splB]; omega
theorem splB_cells (l : List UInt8) (off : Nat) (ys : List UInt8) : cellsOf (splB l off ys) = splice (cellsOf l) off (cellsOf ys) := by
  simp [splB, splice, cellsOf]

/-- copy, as one step of a region that draws its order: what is shorter is copied whole -/
theorem step_cp {ops : Array Oper} {o : Oper} {a : Act} {w : World} {K : Act → World → Prop} {Q : Exit → Act → World → Prop} {E : Prop} {d s : Operand} {dp sp : Option Addr} {dLen dCap sLen sCap : Nat} (g off : Nat) {t : TypeId} {cur ys : List UInt8}
    (hb : Blk w g t (cA cur)) (hsrc : Src w sp sLen ys) (hgd : o.guard = none)
    (ho : o.op = .call { callee := .builtin .copy, args := #[d, s], argTypes := #[110, 110] }) (hd : a.eval d = .slice dp dLen dCap) (hs : a.eval s = .slice sp sLen sCap) (hle : sLen ≤ dLen)
    (hdp : 0 < sLen → dp = some ⟨g, off, none⟩) (hfit : off + sLen ≤ cur.length)
    (h : ∀ w', RowKit.Hid (Blk w' g t (cA (splB cur off ys))) → RowKit.Hid (RowKit.Below g w w') → K (a.put o.dst (goInt sLen)) w') :
    if Region.wanted o (yielded ops a.tmps) = true then Oper.wp Tryz.prog o a w K Q else E := by
  have hl := hsrc.1
  refine step_copy_splice hgd d s 110 110 ho 5 Tryz.underlying110 size8 dp sp dLen dCap sLen sCap hd hs g off (cellsOf cur) t hb (cellsOf ys)
    (by rw [cellsOf_length, hl]; exact (Nat.min_eq_left hle).symm) ?_ (by rw [cellsOf_length, cellsOf_length, hl]; exact hfit) (cellsOf_one ys) g w (Below.refl _ _) (Nat.le_refl _) ?_
  · intro h0
    rw [cellsOf_length, hl] at h0
    obtain ⟨ad, e, hlt, hc⟩ := hsrc.2 h0
    refine ⟨hdp h0, ad, e, fun j v hv => ?_⟩
    simp only [cellsOf, List.getElem?_map, Option.map_eq_some_iff] at hv
    obtain ⟨x, hx, rfl⟩ := hv
    exact hc j x hx
  · intro w' hg' hb'
    rw [cellsOf_length, hl]
    exact h w' (by have := hg'.out; rw [← splB_cells] at this; exact this) hb'

theorem lastS_len {a : List UInt8} (ha : a.length = 16) : (lastS a).length = 4 := by simp [lastS, ha]
theorem src_last {w : World} {g t : Nat} {a : List UInt8} (h : Blk w g t (cA a)) (ha : a.length = 16) : Src w (some ⟨g, 12, none⟩) 4 (lastS a) := by
  have := Src.of_blk (off := 12) (xs := lastS a) h (fun j c hj => by
    simp only [lastS, List.getElem?_drop] at hj
    simp only [List.getElem?_toArray, cellsOf, List.getElem?_map, hj, Option.map_some])
  rwa [lastS_len ha] at this

theorem lastOf_any (a : List UInt8) (ha : a.length = 16) (w : World) :
    Calls Tryz.prog 84 #[.agg (cA a)] w fun e w' => e = .returned (.agg (cA (lastS a))) ∧ Below w.heap.size w w' := by
  have hl4 := lastS_len ha
  go_enter Tryz.func84, Tryz.ntmps84
  go_wp2_with fail
  have b0 : Blk (((w.alloc (.cells (cA a) 48)).alloc (.cells (cA (List.replicate 4 0)) 90)).alloc (.cells (cA (List.replicate 4 0)) 90)) w.heap.size 48 (cA a) := ((Blk.new _ _ _).alloc _).alloc _
  have b1 : Blk (((w.alloc (.cells (cA a) 48)).alloc (.cells (cA (List.replicate 4 0)) 90)).alloc (.cells (cA (List.replicate 4 0)) 90)) (w.heap.size + 1) 90 (cA (List.replicate 4 0)) := (blk_at _ _ _ _ _ (by rw [alloc_size]) rfl).alloc _
  have b2 : Blk (((w.alloc (.cells (cA a) 48)).alloc (.cells (cA (List.replicate 4 0)) 90)).alloc (.cells (cA (List.replicate 4 0)) 90)) (w.heap.size + 1 + 1) 90 (cA (List.replicate 4 0)) := blk_at _ _ _ _ _ (by rw [alloc_size, alloc_size]) rfl
  have hbel : Below w.heap.size w (((w.alloc (.cells (cA a) 48)).alloc (.cells (cA (List.replicate 4 0)) 90)).alloc (.cells (cA (List.replicate 4 0)) 90)) := ((((Below.refl _ _).alloc (Nat.le_refl _) _).alloc (by simp) _).alloc (by simp; omega) _)
  rw [show #[Value.int .u8 0, .int .u8 0, .int .u8 0, .int .u8 0] = cA (List.replicate 4 0) from rfl]
  generalize (((w.alloc (.cells (cA a) 48)).alloc (.cells (cA (List.replicate 4 0)) 90)).alloc (.cells (cA (List.replicate 4 0)) 90)) = w1 at *
  have hs := src_last (w := w1.drew) b0 ha
  have HS := Lib.hid hs
  have HB1 := Lib.hid b1
  have HB2 := Lib.hid b2
  have HL := Lib.hid hbel
  clear b0 b1 b2 hbel hs
  go_region_law (refine step_cp (w.heap.size + 1 + 1) 0 (by exact HB2.out) HS.out rfl rfl rfl rfl (by omega) (fun _ => rfl) (by simp) ?_; intro w4 hg4 hb4)
  have e4 : splB (List.replicate 4 0) 0 (lastS a) = lastS a := by simp [splB, hl4]
  have b2 := hg4.out
  rw [e4] at b2
  have hb := hb4.out
  have b1 := Blk.below (w := w1.drew) HB1.out hb (by omega)
  have hbel : Below w.heap.size w w4 := HL.out.trans ((Below.refl _ _).drew.trans (hb.mono (by omega)))
  clear hg4 hb4 HS hb e4
  go_wp2_with (first
    | (refine go_ld 90 b2 und4 rfl info4 (by rw [cA_size, hl4]) rfl rfl rfl ?_)
    | (refine go_st 90 b1 info4 rfl (by rw [cA_size, hl4]) (cA_one _) rfl rfl rfl rfl ?_))
  exact ret_row Tryz.results84 b1 und4 rfl info4 (by rw [cA_size, hl4]) rfl ⟨rfl, setRow_below hbel b1 (by omega) _⟩ rfl

theorem of4S_len {b : List UInt8} (hb : b.length = 4) : (of4S b).length = 16 := by simp [of4S, hb]
def ffS : List UInt8 := [0, 0, 0, 0, 0, 0, 0, 0, 0, 0, 255, 255, 0, 0, 0, 0]
theorem src_all {w : World} {g t : Nat} {a : List UInt8} (h : Blk w g t (cA a)) : Src w (some ⟨g, 0, none⟩) a.length a := 
  Src.of_blk (off := 0) (xs := a) h (fun j c hj => by
    simp only [Nat.zero_add, List.getElem?_toArray, cellsOf, List.getElem?_map, hj, Option.map_some])

theorem of4_any (b : List UInt8) (hb : b.length = 4) (w : World) :
    Calls Tryz.prog 55 #[.agg (cA b)] w fun e w' => e = .returned (.agg (cA (of4S b))) ∧ Below w.heap.size w w' := by
  have hl16 := of4S_len hb
  go_enter Tryz.func55, Tryz.ntmps55
  go_wp2_with fail
  rw [show #[Value.int .u8 0, .int .u8 0, .int .u8 0, .int .u8 0, .int .u8 0, .int .u8 0, .int .u8 0, .int .u8 0, .int .u8 0, .int .u8 0, .int .u8 0, .int .u8 0, .int .u8 0, .int .u8 0, .int .u8 0, .int .u8 0] = cA (List.replicate 16 0) from rfl,
    show #[Value.int .u8 0, .int .u8 0, .int .u8 0, .int .u8 0, .int .u8 0, .int .u8 0, .int .u8 0, .int .u8 0, .int .u8 0, .int .u8 0, .int .u8 255, .int .u8 255, .int .u8 0, .int .u8 0, .int .u8 0, .int .u8 0] = cA ffS from rfl]
  have b0 : Blk (((w.alloc (.cells (cA b) 90)).alloc (.cells (cA (List.replicate 16 0)) 48)).alloc (.cells (cA ffS) 48)) w.heap.size 90 (cA b) := ((Blk.new _ _ _).alloc _).alloc _
  have b1 : Blk (((w.alloc (.cells (cA b) 90)).alloc (.cells (cA (List.replicate 16 0)) 48)).alloc (.cells (cA ffS) 48)) (w.heap.size + 1) 48 (cA (List.replicate 16 0)) := (blk_at _ _ _ _ _ (by rw [alloc_size]) rfl).alloc _
  have b2 : Blk (((w.alloc (.cells (cA b) 90)).alloc (.cells (cA (List.replicate 16 0)) 48)).alloc (.cells (cA ffS) 48)) (w.heap.size + 1 + 1) 48 (cA ffS) := blk_at _ _ _ _ _ (by rw [alloc_size, alloc_size]) rfl
  have hbel : Below w.heap.size w (((w.alloc (.cells (cA b) 90)).alloc (.cells (cA (List.replicate 16 0)) 48)).alloc (.cells (cA ffS) 48)) := ((((Below.refl _ _).alloc (Nat.le_refl _) _).alloc (by simp) _).alloc (by simp; omega) _)
  generalize (((w.alloc (.cells (cA b) 90)).alloc (.cells (cA (List.replicate 16 0)) 48)).alloc (.cells (cA ffS) 48)) = w1 at *
  have hs := src_all (w := w1.drew) b0
  rw [hb] at hs
  have HS := Lib.hid hs
  have HB1 := Lib.hid b1
  have HB2 := Lib.hid b2
  have HL := Lib.hid hbel
  clear b0 b1 b2 hbel hs
  go_region_law (refine step_cp (w.heap.size + 1 + 1) 12 (by exact HB2.out) HS.out rfl rfl rfl rfl (by omega) (fun _ => rfl) (by decide) ?_; intro w4 hg4 hb4)
  have e4 : splB ffS 12 b = of4S b := by simp [splB, ffS, of4S, hb]
  have b2 := hg4.out
  rw [e4] at b2
  have hbb := hb4.out
  have b1 := Blk.below (w := w1.drew) HB1.out hbb (by omega)
  have hbel : Below w.heap.size w w4 := HL.out.trans ((Below.refl _ _).drew.trans (hbb.mono (by omega)))
  clear hg4 hb4 HS hbb e4
  go_wp2_with (first
    | (refine go_ld 48 b2 und16 rfl info16 (by rw [cA_size, hl16]) rfl rfl rfl ?_)
    | (refine go_st 48 b1 info16 rfl (by rw [cA_size, hl16]) (cA_one _) rfl rfl rfl rfl ?_))
  exact ret_row Tryz.results55 b1 und16 rfl info16 (by rw [cA_size, hl16]) rfl ⟨rfl, setRow_below hbel b1 (by omega) _⟩ rfl

end Go.Proofs.YtlpondbcnfaggaaGreatDoor.Ad
