import Derived.Test.YtkeepngaaleakaaGreatDoorMXa
namespace Go.Proofs.YtkeepngaaleakaaGreatDoor
open Go.ChangeShapes Go.WideShapes Go.ChangeAt Go.RowKit
open Tr (T S4 Ent Tri KL)
def sdB (o:Option T) (l:Nat):Nat:=match o with
  | none => 0
  | some t => Z.addr t.pre l
set_option maxRecDepth 1000000 in
theorem sFrom_c {w:World} {B k l:Nat} {c0:List Nat} {o:Option T} (h:NodeO w B k o) (hB:B≤w.heap.size) (hT:∀ w',Below w.heap.size w w'→Tz w') (hf:Tr.FitL k l c0 (Tr.sdL o l)) (n:Nat) (hn:n≤65536) (i:Nat) (u:Option T) (hi:Tr.hdA (Tr.dropF (Tr.sdL o l) n) = i) (hu:Tr.hdT (Tr.dropF (Tr.sdL o l) n) = u) :
    Calls Tryz.prog 182 #[sdV (rootP o) (sdK o l) (sdB o l),.int .i64 (n:Int)] w fun e w' => e = .returned (.tuple #[.int .i64 (i:Int),.pointer (rootP u)])∧Below w.heap.size w w':=by
  have hb0:=below_alloc w (.cells #[.pointer (rootP o),.bool (sdK o l),.int .i64 (sdB o l:Int)] 241)
  have hpn:=nptr_none
  have hn2:=nptr_no2
  cases o with
  | none =>
    have hd:Tr.dropF (Tr.sdL none l) n = []:=by simp [Tr.dropF,Tr.sdL]
    rw [hd] at hi hu
    have hi':65536 = i:=hi
    have hu':none = u:=hu
    subst hi' hu'
    simp only [rootP,sdK,sdB] at hb0 ⊢
    clear h hT hf hd
    go_enter Tryz.func182,Tryz.ntmps182
    go_wp2_with fail
    go_quiet (fail)
    have hb1:=below_drewN nq hb0
    go_wp2_with fail
    go_ret2
    exact ⟨rfl,hb1⟩
  | some t =>
    have hnt:=h t rfl
    by_cases c:t.lv = l + 1
    · have hs:Tr.sdL (some t) l = t.ks:=by simp [Tr.sdL,c]
      have hk:sdK (some t) l = true:=by simp [sdK,c]
      obtain ⟨ad,ha⟩:∃ ad,sdB (some t) l = ad:=⟨_,rfl⟩
      rw [hs] at hi hu hf
      rw [hk,ha] at hb0 ⊢
      cases hd:t.ks[Sl.idx t.ks (n:Int)]? with
      | none =>
        have hd':Tr.dropF t.ks n = []:=by
          rw [Tr.dropF_head] at hd
          cases h0:Tr.dropF t.ks n with
          | nil => rfl
          | cons x xs => rw [h0] at hd;cases hd
        rw [hd'] at hi hu
        have hi':65536 = i:=hi
        have hu':none = u:=hu
        subst hi' hu'
        have HF:Hid (∀ w1,Below w.heap.size w w1→Calls Tryz.prog 149 #[.pointer (some ⟨t.blk,0,none⟩),.int .i64 (n:Int)] w1 fun e w' => e = .returned (atKid 0 none)∧Below w.heap.size w w'):=Lib.hid fun w1 hb =>
          (nFrom_c (hnt.below hb hB (Nat.le_refl _)).2 (hT w1 hb) (n:Int) (by omega) (by omega) (0,none) (by rw [hd];rfl)).mono fun e w' ⟨he,m,hw⟩ => ⟨he,by rw [hw];exact below_drewN _ hb⟩
        simp only [rootP] at hb0 ⊢
        clear h hT hf hd hd' hnt hs hk ha hi hu
        go_enter Tryz.func182,Tryz.ntmps182
        go_wp2_with fail
        go_quiet (fail)
        have hb1:=below_drewN nq hb0
        go_wp2_with (go_at_call 149;refine (HF.out _ hb1).mono ?_;rintro e w2 ⟨rfl,hb2⟩)
        go_ret2
        exact ⟨rfl,hb2⟩
      | some p =>
        obtain ⟨b,s⟩:=p
        have hd':∃ xs,Tr.dropF t.ks n = (b,s) :: xs:=by
          rw [Tr.dropF_head] at hd
          cases h0:Tr.dropF t.ks n with
          | nil => rw [h0] at hd;cases hd
          | cons x xs => rw [h0] at hd;cases hd;exact ⟨xs,rfl⟩
        obtain ⟨xs,hd'⟩:=hd'
        have hge:=Tr.dropF_ge hd'
        rw [hd'] at hi hu
        have hi':b = i:=hi
        have hu':some s = u:=hu
        subst hi' hu'
        have HF:Hid (∀ w1,Below w.heap.size w w1→Calls Tryz.prog 149 #[.pointer (some ⟨t.blk,0,none⟩),.int .i64 (n:Int)] w1 fun e w' => e = .returned (atKid b (some ⟨s.blk,0,none⟩))∧Below w.heap.size w w'):=Lib.hid fun w1 hb =>
          (nFrom_c (hnt.below hb hB (Nat.le_refl _)).2 (hT w1 hb) (n:Int) (by omega) (by omega) (b,some ⟨s.blk,0,none⟩) (by rw [hd];rfl)).mono fun e w' ⟨he,m,hw⟩ => ⟨he,by rw [hw];exact below_drewN _ hb⟩
        have d1:decide ((b:Int) < (n:Int)) = false:=decide_eq_false (by have:n≤b:=hge;omega)
        have d1':decide (b < n) = false:=decide_eq_false (by have:n≤b:=hge;omega)
        simp only [rootP] at hb0 ⊢
        clear h hT hf hd hd' hnt hs hk ha hi hu hge
        go_enter Tryz.func182,Tryz.ntmps182
        go_wp2_with fail
        go_quiet (fail)
        have hb1:=below_drewN nq hb0
        go_wp2_with (go_at_call 149;refine (HF.out _ hb1).mono ?_;rintro e w2 ⟨rfl,hb2⟩)
        go_ret2
        exact ⟨rfl,hb2⟩
    · have hs:Tr.sdL (some t) l = [(Z.addr t.pre l,t)]:=by simp [Tr.sdL,c]
      have hk:sdK (some t) l = false:=by simp [sdK,c]
      have ha:sdB (some t) l = Z.addr t.pre l:=rfl
      rw [hs,idx_single] at hi hu
      rw [hk,ha] at hb0 ⊢
      generalize Z.addr t.pre l = ad at *
      have hlt:decide ((ad:Int) < (n:Int)) = decide (ad < n):=by simp
      obtain ⟨r,hr⟩:∃ r,decide (ad < n) = r:=⟨_,rfl⟩
      rw [hr] at hi hu hlt
      simp only [rootP] at hb0 ⊢
      clear h hT hf hs hk ha hnt
      cases r with
      | true =>
        have hi':65536 = i:=hi
        have hu':none = u:=hu
        subst hi' hu'
        go_enter Tryz.func182,Tryz.ntmps182
        go_wp2_with fail
        go_quiet (fail)
        have hb1:=below_drewN nq hb0
        go_wp2_with fail
        go_ret2
        exact ⟨rfl,hb1⟩
      | false =>
        have hi':ad = i:=hi
        have hu':some t = u:=hu
        subst hi' hu'
        go_enter Tryz.func182,Tryz.ntmps182
        go_wp2_with fail
        go_quiet (fail)
        have hb1:=below_drewN nq hb0
        go_wp2_with fail
        go_ret2
        exact ⟨rfl,hb1⟩
theorem sSide_c {w:World} {B k:Nat} {t:T} (h:Node w B k t) (hB:B≤w.heap.size) (A:Option Addr) (c:Nat) (hp:Pts w w.heap.size A t.pre) (l:Nat) (hl:l≤63) {n:Nat} (hn:t.pre.length = n) {a:Nat} (ha:Z.addr t.pre l = a) {r:Bool} (hr:decide (t.lv = l + 1) = r) :
    Calls Tryz.prog 181 #[.pointer (some ⟨t.blk,0,none⟩),.slice A n c,.int .i64 (l:Int)] w fun e w' => e = .returned (sdV (some ⟨t.blk,0,none⟩) r a)∧Below w.heap.size w w':=by
  obtain ⟨kp,hnd⟩:=h.2.nd
  have hlen:=h.1.len
  have k1:=h.1.k1
  have k16:=h.1.k16
  have hb0:=below_alloc w (.cells #[.pointer none,.bool false,.int .i64 0] 241)
  have HA:=Lib.hid fun (w1:World) (hb:Below w.heap.size w w1) => addr_yes A c t.pre l w.heap.size w1 (hp.below' hb (Nat.le_refl _)) (by omega) (by omega) hl
  have HL:=Lib.hid fun (w1:World) (hb:Below w.heap.size w w1) => nLevel_c (hnd.below hb hB (Nat.le_refl _))
  have d1:(levI t == (l:Int)) = r:=by
    rw [← hr]
    unfold levI
    by_cases c:t.lv = l + 1
    · rw [decide_eq_true c,beq_iff_eq];omega
    · rw [decide_eq_false c,beq_eq_false_iff_ne];omega
  rw [ha,hn] at HA
  clear h hB hp hl hn ha hr hnd hlen k1 k16
  generalize levI t = lv at *
  go_enter Tryz.func181,Tryz.ntmps181
  go_wp2_with (first
    | (go_at_call 160;refine (HA.out _ hb0).mono ?_;rintro e w' ⟨rfl,rfl⟩)
    | (go_at_call 120;refine (HL.out _ hb0).mono ?_;rintro e w' ⟨rfl,rfl⟩))
  refine bodyPost_ret (v:=sdV (some ⟨t.blk,0,none⟩) r a) (by simp [results,Tryz.results181,go_sem]) rfl ?_
  exact ⟨rfl,below_alloc _ _⟩
abbrev stS (t:Tri) (l:Nat) (v:Value):Array Value:=#[.pointer (rootP t.a),.bool (sdK t.a l),.int .i64 (sdB t.a l:Int),.pointer (rootP t.b),.bool (sdK t.b l),.int .i64 (sdB t.b l:Int),v]
theorem sStep_nil (a b:Option Addr) (h:(a.isSome && b.isSome) = false) (w:World) :
    Calls Tryz.prog 132 #[p2V a b] w fun e w' => e = .returned (.pointer none)∧Below w.heap.size w w':=by
  have hb0:=below_alloc w (.cells #[.pointer a,.pointer b] 97)
  have HB:=Lib.hid fun (w1:World) => sBoth_c a b w1
  rw [h] at HB
  clear h
  go_enter Tryz.func132,Tryz.ntmps132
  go_wp2_with fail
  refine (HB.out _).mono ?_
  rintro e w1 ⟨rfl,hb1⟩
  have hB1:=Below.andThen hb0 hb1
  clear hb1
  go_wp2_with fail
  go_ret
  exact ⟨rfl,hB1⟩
set_option maxRecDepth 1000000 in
set_option maxHeartbeats 4000000 in
theorem sStep_no {w:World} {B k:Nat} {x y:T} (hx:Node w B k x) (hy:Node w B k y) (hB:B≤w.heap.size) (hl:Tr.lvl x y = -1) :
    Calls Tryz.prog 132 #[p2V (some ⟨x.blk,0,none⟩) (some ⟨y.blk,0,none⟩)] w fun e w' => e = .returned (.pointer none)∧Below w.heap.size w w':=by
  obtain ⟨W0,hW0⟩:∃ W0,W0 = w.alloc (.cells #[.pointer (some ⟨x.blk,0,none⟩),.pointer (some ⟨y.blk,0,none⟩)] 97):=⟨_,rfl⟩
  have hb0:Below w.heap.size w W0:=by rw [hW0];exact below_alloc _ _
  have hr0:W0.heap[w.heap.size]? = some (.cells #[.pointer (some ⟨x.blk,0,none⟩),.pointer (some ⟨y.blk,0,none⟩)] 97 (0,0)):=by rw [hW0];exact heap_at w _ _ rfl
  have hlt:w.heap.size < W0.heap.size:=(Array.getElem?_eq_some_iff.1 hr0).1
  have hB0:B≤W0.heap.size:=Nat.le_trans hB hb0.size
  have hx0:=hx.below hb0 hB (Nat.le_refl B)
  have hy0:=hy.below hb0 hB (Nat.le_refl B)
  have lx:=hx.1.len
  have ly:=hy.1.len
  have k1:=hx.1.k1
  have k16:=hx.1.k16
  have H1:=Lib.hid fun (w2:World) (hb:Below W0.heap.size W0 w2) => prefix_at hx0 hB0 hb
  have H2:=Lib.hid fun (w2:World) (hb:Below W0.heap.size W0 w2) => prefix_at hy0 hB0 hb
  rw [lx] at H1
  rw [ly] at H2
  obtain ⟨pl,hpl⟩:∃ pl,Z.part x.pre y.pre = pl:=⟨_,rfl⟩
  have HP:Hid (∀ (w1:World) (A A':Option Addr) (c c':Nat),Pts w1 w1.heap.size A x.pre→Pts w1 w1.heap.size A' y.pre→Calls Tryz.prog 152 #[.slice A k c,.slice A' k c'] w1 fun e w' => e = .returned (.tuple #[.int .i64 pl,.int .i64 0])∧w1 = w'):=Lib.hid fun w1 A A' c c' h1 h2 => by
    have hh:=part_at (c:=c) (c':=c') h1 (Nat.le_refl _) h2 (Nat.le_refl _) lx ly k1 k16 hpl
    rw [lx,ly] at hh
    exact hh
  have HLx:=Lib.hid fun (w2:World) (hb:Below W0.heap.size W0 w2) => level_at hx0 hB0 hb rfl
  have HLy:=Lib.hid fun (w2:World) (hb:Below W0.heap.size W0 w2) => level_at hy0 hB0 hb rfl
  have hmx:max (max pl (levI x)) (levI y) = -1:=by rw [← hpl];exact hl
  have m0:∀ w2,Below W0.heap.size W0 w2→w2.cell? ⟨w.heap.size,0,none⟩ = some (.pointer (some ⟨x.blk,0,none⟩)):=fun w2 hb => by rw [cell_of_row w2 _ _ _ _ (0,0) ((hb.block _ hlt).trans hr0)];rfl
  have m1:∀ w2,Below W0.heap.size W0 w2→w2.cell? ⟨w.heap.size,1,none⟩ = some (.pointer (some ⟨y.blk,0,none⟩)):=fun w2 hb => by rw [cell_of_row w2 _ _ _ _ (0,0) ((hb.block _ hlt).trans hr0)];rfl
  have HBo:Hid (∀ w2:World,Calls Tryz.prog 79 #[p2V (some ⟨x.blk,0,none⟩) (some ⟨y.blk,0,none⟩)] w2 fun e w' => e = .returned (.bool true)∧Below w2.heap.size w2 w'):=Lib.hid fun w2 => sBoth_c _ _ w2
  have HW:=Lib.hid (And.intro hW0 hb0)
  have Hmx:=Lib.hid hmx
  clear hx hy hB hl hx0 hy0 lx ly k1 k16 hpl hW0 hr0 hlt hB0
  obtain ⟨bx,hbx⟩:∃ b,x.blk = b:=⟨_,rfl⟩
  obtain ⟨by',hby⟩:∃ b,y.blk = b:=⟨_,rfl⟩
  obtain ⟨lx,hlx⟩:∃ b,levI x = b:=⟨_,rfl⟩
  obtain ⟨ly,hly⟩:∃ b,levI y = b:=⟨_,rfl⟩
  rw [hbx] at m0 HBo H1 HLx
  rw [hby] at m1 HBo H2 HLy
  rw [hlx] at HLx hmx
  rw [hly] at HLy hmx
  rw [hbx,hby] at HW ⊢
  clear Hmx hb0
  obtain ⟨p,hp⟩:∃ p,x.pre = p:=⟨_,rfl⟩
  obtain ⟨p',hp'⟩:∃ p,y.pre = p:=⟨_,rfl⟩
  rw [hp] at H1 HP
  rw [hp'] at H2 HP
  clear hp hp' hbx hby hlx hly
  have h00:=Below.refl W0.heap.size W0
  go_enter Tryz.func132,Tryz.ntmps132
  go_upto_region 1 with fail
  rw [← HW.out.1]
  have q0:=m0 W0 h00
  have q1:=m1 W0 h00
  go_upto_region 3 with (refine (HBo.out _).mono ?_;rintro e w1 ⟨rfl,hb1⟩;clear q0 q1 HBo)
  go_cut [3,4] from 7 (fun u v wx => (∃ A c A' c',u = .slice A k c∧v = .slice A' k c'∧Pts wx wx.heap.size A p∧Pts wx wx.heap.size A' p')∧Below W0.heap.size W0 wx)
  case first =>
    go_region_held3 (fun w2 => Below W0.heap.size W0 w2) (((repeat first | refine bD ?_ | with_reducible refine bN ?_ | refine bA ?_ | refine bS ?_);first | exact bR | assumption | exact bN bR | exact bN (bN bR))) (first
      | (go_at_call 121;refine (H1.out _ (show Below W0.heap.size W0 _ by ((repeat first | refine bD ?_ | with_reducible refine bN ?_ | refine bA ?_ | refine bS ?_);first | exact bR | assumption | exact bN bR | exact bN (bN bR)))).mono ?_;rintro e wa ⟨h1,d1,rfl,hp1,hba⟩;have hBa:Below W0.heap.size W0 wa:=Below.trans (show Below W0.heap.size W0 _ by ((repeat first | refine bD ?_ | with_reducible refine bN ?_ | refine bA ?_ | refine bS ?_);first | exact bR | assumption | exact bN bR | exact bN (bN bR))) (hba.mono (Below.size (show Below W0.heap.size W0 _ by ((repeat first | refine bD ?_ | with_reducible refine bN ?_ | refine bA ?_ | refine bS ?_);first | exact bR | assumption | exact bN bR | exact bN (bN bR)))));have K1:=Lib.hid hp1;clear hp1 hba H1)
      | (go_at_call 121;refine (H2.out _ (show Below W0.heap.size W0 _ by ((repeat first | refine bD ?_ | with_reducible refine bN ?_ | refine bA ?_ | refine bS ?_);first | exact bR | assumption | exact bN bR | exact bN (bN bR)))).mono ?_;rintro e wc ⟨h2,d2,rfl,hp2,hbc⟩;have hBc:Below W0.heap.size W0 wc:=Below.trans (show Below W0.heap.size W0 _ by ((repeat first | refine bD ?_ | with_reducible refine bN ?_ | refine bA ?_ | refine bS ?_);first | exact bR | assumption | exact bN bR | exact bN (bN bR))) (hbc.mono (Below.size (show Below W0.heap.size W0 _ by ((repeat first | refine bD ?_ | with_reducible refine bN ?_ | refine bA ?_ | refine bS ?_);first | exact bR | assumption | exact bN bR | exact bN (bN bR)))));have K2:=Lib.hid (And.intro hp2 hbc);clear hp2 hbc H2))
    all_goals go_wp2_with fail
    all_goals go_meet
    case rel => exact ⟨⟨_,_,_,_,rfl,rfl,(K1.out.below' K2.out.2 (Nat.le_refl _)).keep K2.out.2.size (fun _ _ => rfl),K2.out.1⟩,hBc⟩
  case rest =>
  rename World => wb
  obtain ⟨⟨A,c,A',c',rfl,rfl,hp1,hp2⟩,hbx⟩:=hcut
  have n0:∀ w2,Below wb.heap.size wb w2→w2.cell? ⟨w.heap.size,0,none⟩ = some (.pointer (some ⟨bx,0,none⟩)):=fun w2 hb => m0 w2 (Below.andThen hbx hb)
  have n1:∀ w2,Below wb.heap.size wb w2→w2.cell? ⟨w.heap.size,1,none⟩ = some (.pointer (some ⟨by',0,none⟩)):=fun w2 hb => m1 w2 (Below.andThen hbx hb)
  have HP2:=Lib.hid (HP.out wb A A' c c' hp1 hp2)
  have HX1:=Lib.hid (And.intro hbx (And.intro hp1 hp2))
  have hcc:=Below.refl wb.heap.size wb
  clear m0 m1 H1 H2 HP h00 hbx hp1 hp2
  go_upto_region 5 with ((with_reducible refine HP2.out.mono ?_);rintro e w' ⟨rfl,rfl⟩)
  clear HP2
  go_cut [5] from 22 (fun v wx => v = Value.int .i64 (-1)∧Below wb.heap.size wb wx)
  case first =>
    go_region_held3 (fun w2 => Below wb.heap.size wb w2) (((repeat first | refine bD ?_ | with_reducible refine bN ?_ | refine bA ?_ | refine bS ?_);first | exact bR | assumption | exact bN bR | exact bN (bN bR))) (first
      | (go_at_call 120;refine (HLx.out _ (Below.andThen HX1.out.1 (show Below wb.heap.size wb _ by ((repeat first | refine bD ?_ | with_reducible refine bN ?_ | refine bA ?_ | refine bS ?_);first | exact bR | assumption | exact bN bR | exact bN (bN bR))))).mono ?_;rintro e wl ⟨rfl,rfl⟩;clear HLx)
      | (go_at_call 120;refine (HLy.out _ (Below.andThen HX1.out.1 (show Below wb.heap.size wb _ by ((repeat first | refine bD ?_ | with_reducible refine bN ?_ | refine bA ?_ | refine bS ?_);first | exact bR | assumption | exact bN bR | exact bN (bN bR))))).mono ?_;rintro e wm ⟨rfl,rfl⟩;clear HLy))
    all_goals go_wp2_with fail
    all_goals go_meet
    all_goals
      refine ⟨?_,by ((repeat first | refine bD ?_ | with_reducible refine bN ?_ | refine bA ?_ | refine bS ?_);first | exact bR | assumption | exact bN bR | exact bN (bN bR))⟩
      first
        | rw [hmx]
        | rw [max3_1 (by assumption) hmx]
        | rw [max3_2 (by assumption) (by assumption) hmx]
        | rw [max3_3 (by assumption) (by assumption) hmx]
  case rest =>
  obtain ⟨rfl,hbl⟩:=hcut
  have HL:=Lib.hid (Below.andThen HX1.out.1 hbl)
  clear HLx HLy hmx hcc
  go_wp2_with fail
  go_ret
  exact ⟨rfl,Below.andThen HW.out.2 HL.out⟩
set_option maxRecDepth 1000000 in
set_option maxHeartbeats 4000000 in
theorem sStep_yes {w:World} {B k:Nat} {x y:T} (hx:Node w B k x) (hy:Node w B k y) (hB:B≤w.heap.size) {l:Nat} (hl:Tr.lvl x y = (l:Int)) (h63:l≤63) :
    Calls Tryz.prog 132 #[p2V (some ⟨x.blk,0,none⟩) (some ⟨y.blk,0,none⟩)] w fun e w' => ∃ q,e = .returned (.pointer (some ⟨q,0,none⟩))∧w.heap.size≤q∧w'.heap[q]? = some (.cells (stS (two (some x) (some y)) l (.slice none 0 0)) 245 (0,0))∧Below w.heap.size w w':=by
  obtain ⟨W0,hW0⟩:∃ W0,W0 = w.alloc (.cells #[.pointer (some ⟨x.blk,0,none⟩),.pointer (some ⟨y.blk,0,none⟩)] 97):=⟨_,rfl⟩
  have hb0:Below w.heap.size w W0:=by rw [hW0];exact below_alloc _ _
  have hr0:W0.heap[w.heap.size]? = some (.cells #[.pointer (some ⟨x.blk,0,none⟩),.pointer (some ⟨y.blk,0,none⟩)] 97 (0,0)):=by rw [hW0];exact heap_at w _ _ rfl
  have hlt:w.heap.size < W0.heap.size:=(Array.getElem?_eq_some_iff.1 hr0).1
  have hB0:B≤W0.heap.size:=Nat.le_trans hB hb0.size
  have hx0:=hx.below hb0 hB (Nat.le_refl B)
  have hy0:=hy.below hb0 hB (Nat.le_refl B)
  have lx:=hx.1.len
  have ly:=hy.1.len
  have k1:=hx.1.k1
  have k16:=hx.1.k16
  have H1:=Lib.hid fun (w2:World) (hb:Below W0.heap.size W0 w2) => prefix_at hx0 hB0 hb
  have H2:=Lib.hid fun (w2:World) (hb:Below W0.heap.size W0 w2) => prefix_at hy0 hB0 hb
  rw [lx] at H1
  rw [ly] at H2
  obtain ⟨pl,hpl⟩:∃ pl,Z.part x.pre y.pre = pl:=⟨_,rfl⟩
  have HP:Hid (∀ (w1:World) (A A':Option Addr) (c c':Nat),Pts w1 w1.heap.size A x.pre→Pts w1 w1.heap.size A' y.pre→Calls Tryz.prog 152 #[.slice A k c,.slice A' k c'] w1 fun e w' => e = .returned (.tuple #[.int .i64 pl,.int .i64 0])∧w1 = w'):=Lib.hid fun w1 A A' c c' h1 h2 => by
    have hh:=part_at (c:=c) (c':=c') h1 (Nat.le_refl _) h2 (Nat.le_refl _) lx ly k1 k16 hpl
    rw [lx,ly] at hh
    exact hh
  have HLx:=Lib.hid fun (w2:World) (hb:Below W0.heap.size W0 w2) => level_at hx0 hB0 hb rfl
  have HLy:=Lib.hid fun (w2:World) (hb:Below W0.heap.size W0 w2) => level_at hy0 hB0 hb rfl
  have hmx:max (max pl (levI x)) (levI y) = (l:Int):=by rw [← hpl];exact hl
  have m0:∀ w2,Below W0.heap.size W0 w2→w2.cell? ⟨w.heap.size,0,none⟩ = some (.pointer (some ⟨x.blk,0,none⟩)):=fun w2 hb => by rw [cell_of_row w2 _ _ _ _ (0,0) ((hb.block _ hlt).trans hr0)];rfl
  have m1:∀ w2,Below W0.heap.size W0 w2→w2.cell? ⟨w.heap.size,1,none⟩ = some (.pointer (some ⟨y.blk,0,none⟩)):=fun w2 hb => by rw [cell_of_row w2 _ _ _ _ (0,0) ((hb.block _ hlt).trans hr0)];rfl
  have HBo:Hid (∀ w2:World,Calls Tryz.prog 79 #[p2V (some ⟨x.blk,0,none⟩) (some ⟨y.blk,0,none⟩)] w2 fun e w' => e = .returned (.bool true)∧Below w2.heap.size w2 w'):=Lib.hid fun w2 => sBoth_c _ _ w2
  have HX:Hid (∀ (w2:World) (A:Option Addr) (c:Nat),Below W0.heap.size W0 w2→Pts w2 w2.heap.size A x.pre→Calls Tryz.prog 181 #[.pointer (some ⟨x.blk,0,none⟩),.slice A k c,.int .i64 (l:Int)] w2 fun e w' => e = .returned (sdV (some ⟨x.blk,0,none⟩) (sdK (some x) l) (sdB (some x) l))∧Below w2.heap.size w2 w'):=Lib.hid fun w2 A c hb hp => sSide_c (hx0.below hb hB0 (Nat.le_refl _)) (Nat.le_trans hB0 hb.size) A c hp l h63 lx rfl rfl
  have HY:Hid (∀ (w2:World) (A:Option Addr) (c:Nat),Below W0.heap.size W0 w2→Pts w2 w2.heap.size A y.pre→Calls Tryz.prog 181 #[.pointer (some ⟨y.blk,0,none⟩),.slice A k c,.int .i64 (l:Int)] w2 fun e w' => e = .returned (sdV (some ⟨y.blk,0,none⟩) (sdK (some y) l) (sdB (some y) l))∧Below w2.heap.size w2 w'):=Lib.hid fun w2 A c hb hp => sSide_c (hy0.below hb hB0 (Nat.le_refl _)) (Nat.le_trans hB0 hb.size) A c hp l h63 ly rfl rfl
  have d0:decide ((l:Int) < 0) = false:=decide_eq_false (by omega)
  simp only [stS,rootP]
  obtain ⟨kx,hkx⟩:∃ v,sdK (some x) l = v:=⟨_,rfl⟩
  obtain ⟨ky,hky⟩:∃ v,sdK (some y) l = v:=⟨_,rfl⟩
  obtain ⟨ax,hax⟩:∃ v,sdB (some x) l = v:=⟨_,rfl⟩
  obtain ⟨ay,hay⟩:∃ v,sdB (some y) l = v:=⟨_,rfl⟩
  rw [hkx,hax] at HX
  rw [hky,hay] at HY
  rw [hkx,hax,hky,hay]
  clear hkx hky hax hay h63
  have HW:=Lib.hid (And.intro hW0 hb0)
  have Hmx:=Lib.hid hmx
  clear hx hy hB hl hx0 hy0 lx ly k1 k16 hpl hW0 hr0 hlt hB0
  obtain ⟨bx,hbx⟩:∃ b,x.blk = b:=⟨_,rfl⟩
  obtain ⟨by',hby⟩:∃ b,y.blk = b:=⟨_,rfl⟩
  obtain ⟨lx,hlx⟩:∃ b,levI x = b:=⟨_,rfl⟩
  obtain ⟨ly,hly⟩:∃ b,levI y = b:=⟨_,rfl⟩
  rw [hbx] at m0 HBo H1 HLx HX
  rw [hby] at m1 HBo H2 HLy HY
  rw [hlx] at HLx hmx
  rw [hly] at HLy hmx
  rw [hbx,hby] at HW ⊢
  clear Hmx hb0
  obtain ⟨p,hp⟩:∃ p,x.pre = p:=⟨_,rfl⟩
  obtain ⟨p',hp'⟩:∃ p,y.pre = p:=⟨_,rfl⟩
  rw [hp] at H1 HP HX
  rw [hp'] at H2 HP HY
  clear hp hp' hbx hby hlx hly
  have h00:=Below.refl W0.heap.size W0
  go_enter Tryz.func132,Tryz.ntmps132
  go_upto_region 1 with fail
  rw [← HW.out.1]
  have q0:=m0 W0 h00
  have q1:=m1 W0 h00
  go_upto_region 3 with (refine (HBo.out _).mono ?_;rintro e w1 ⟨rfl,hb1⟩;clear q0 q1 HBo)
  go_cut [3,4] from 7 (fun u v wx => (∃ A c A' c',u = .slice A k c∧v = .slice A' k c'∧Pts wx wx.heap.size A p∧Pts wx wx.heap.size A' p')∧Below W0.heap.size W0 wx)
  case first =>
    go_region_held3 (fun w2 => Below W0.heap.size W0 w2) (((repeat first | refine bD ?_ | with_reducible refine bN ?_ | refine bA ?_ | refine bS ?_);first | exact bR | assumption | exact bN bR | exact bN (bN bR))) (first
      | (go_at_call 121;refine (H1.out _ (show Below W0.heap.size W0 _ by ((repeat first | refine bD ?_ | with_reducible refine bN ?_ | refine bA ?_ | refine bS ?_);first | exact bR | assumption | exact bN bR | exact bN (bN bR)))).mono ?_;rintro e wa ⟨h1,d1,rfl,hp1,hba⟩;have hBa:Below W0.heap.size W0 wa:=Below.trans (show Below W0.heap.size W0 _ by ((repeat first | refine bD ?_ | with_reducible refine bN ?_ | refine bA ?_ | refine bS ?_);first | exact bR | assumption | exact bN bR | exact bN (bN bR))) (hba.mono (Below.size (show Below W0.heap.size W0 _ by ((repeat first | refine bD ?_ | with_reducible refine bN ?_ | refine bA ?_ | refine bS ?_);first | exact bR | assumption | exact bN bR | exact bN (bN bR)))));have K1:=Lib.hid hp1;clear hp1 hba H1)
      | (go_at_call 121;refine (H2.out _ (show Below W0.heap.size W0 _ by ((repeat first | refine bD ?_ | with_reducible refine bN ?_ | refine bA ?_ | refine bS ?_);first | exact bR | assumption | exact bN bR | exact bN (bN bR)))).mono ?_;rintro e wc ⟨h2,d2,rfl,hp2,hbc⟩;have hBc:Below W0.heap.size W0 wc:=Below.trans (show Below W0.heap.size W0 _ by ((repeat first | refine bD ?_ | with_reducible refine bN ?_ | refine bA ?_ | refine bS ?_);first | exact bR | assumption | exact bN bR | exact bN (bN bR))) (hbc.mono (Below.size (show Below W0.heap.size W0 _ by ((repeat first | refine bD ?_ | with_reducible refine bN ?_ | refine bA ?_ | refine bS ?_);first | exact bR | assumption | exact bN bR | exact bN (bN bR)))));have K2:=Lib.hid (And.intro hp2 hbc);clear hp2 hbc H2))
    all_goals go_wp2_with fail
    all_goals go_meet
    case rel => exact ⟨⟨_,_,_,_,rfl,rfl,(K1.out.below' K2.out.2 (Nat.le_refl _)).keep K2.out.2.size (fun _ _ => rfl),K2.out.1⟩,hBc⟩
  case rest =>
  rename World => wb
  obtain ⟨⟨A,c,A',c',rfl,rfl,hp1,hp2⟩,hbx⟩:=hcut
  have n0:∀ w2,Below wb.heap.size wb w2→w2.cell? ⟨w.heap.size,0,none⟩ = some (.pointer (some ⟨bx,0,none⟩)):=fun w2 hb => m0 w2 (Below.andThen hbx hb)
  have n1:∀ w2,Below wb.heap.size wb w2→w2.cell? ⟨w.heap.size,1,none⟩ = some (.pointer (some ⟨by',0,none⟩)):=fun w2 hb => m1 w2 (Below.andThen hbx hb)
  have HP2:=Lib.hid (HP.out wb A A' c c' hp1 hp2)
  have HX1:=Lib.hid (And.intro hbx (And.intro hp1 hp2))
  have hcc:=Below.refl wb.heap.size wb
  clear m0 m1 H1 H2 HP h00 hbx hp1 hp2
  go_upto_region 5 with ((with_reducible refine HP2.out.mono ?_);rintro e w' ⟨rfl,rfl⟩)
  clear HP2
  go_cut [5] from 22 (fun v wx => v = Value.int .i64 (l:Int)∧Below wb.heap.size wb wx)
  case first =>
    go_region_held3 (fun w2 => Below wb.heap.size wb w2) (((repeat first | refine bD ?_ | with_reducible refine bN ?_ | refine bA ?_ | refine bS ?_);first | exact bR | assumption | exact bN bR | exact bN (bN bR))) (first
      | (go_at_call 120;refine (HLx.out _ (Below.andThen HX1.out.1 (show Below wb.heap.size wb _ by ((repeat first | refine bD ?_ | with_reducible refine bN ?_ | refine bA ?_ | refine bS ?_);first | exact bR | assumption | exact bN bR | exact bN (bN bR))))).mono ?_;rintro e wl ⟨rfl,rfl⟩;clear HLx)
      | (go_at_call 120;refine (HLy.out _ (Below.andThen HX1.out.1 (show Below wb.heap.size wb _ by ((repeat first | refine bD ?_ | with_reducible refine bN ?_ | refine bA ?_ | refine bS ?_);first | exact bR | assumption | exact bN bR | exact bN (bN bR))))).mono ?_;rintro e wm ⟨rfl,rfl⟩;clear HLy))
    all_goals go_wp2_with fail
    all_goals go_meet
    all_goals
      refine ⟨?_,by ((repeat first | refine bD ?_ | with_reducible refine bN ?_ | refine bA ?_ | refine bS ?_);first | exact bR | assumption | exact bN bR | exact bN (bN bR))⟩
      first
        | rw [hmx]
        | rw [max3_1 (by assumption) hmx]
        | rw [max3_2 (by assumption) (by assumption) hmx]
        | rw [max3_3 (by assumption) (by assumption) hmx]
  case rest =>
  obtain ⟨rfl,hbl⟩:=hcut
  have HL:=Lib.hid (Below.andThen HX1.out.1 hbl)
  clear HLx HLy hmx hcc
  have o0:∀ w2,Below wc.heap.size wc w2→w2.cell? ⟨w.heap.size,0,none⟩ = some (.pointer (some ⟨bx,0,none⟩)):=fun w2 hb => n0 w2 (Below.andThen hbl hb)
  have o1:∀ w2,Below wc.heap.size wc w2→w2.cell? ⟨w.heap.size,1,none⟩ = some (.pointer (some ⟨by',0,none⟩)):=fun w2 hb => n1 w2 (Below.andThen hbl hb)
  have HD:=Lib.hid hbl
  have hdd:=Below.refl wc.heap.size wc
  clear n0 n1 hbl
  go_upto_region 8 with fail
  go_region_held3 (fun w2 => Below wc.heap.size wc w2) (((repeat first | refine bD ?_ | with_reducible refine bN ?_ | refine bA ?_ | refine bS ?_);first | exact bR | assumption | exact bN bR | exact bN (bN bR))) (first
    | (go_at_call 181;refine (HX.out _ _ _ (Below.andThen HL.out (show Below wc.heap.size wc _ by ((repeat first | refine bD ?_ | with_reducible refine bN ?_ | refine bA ?_ | refine bS ?_);first | exact bR | assumption | exact bN bR | exact bN (bN bR)))) ((HX1.out.2.1.below' (Below.andThen HD.out (show Below wc.heap.size wc _ by ((repeat first | refine bD ?_ | with_reducible refine bN ?_ | refine bA ?_ | refine bS ?_);first | exact bR | assumption | exact bN bR | exact bN (bN bR)))) (Nat.le_refl _)).keep (Below.size (Below.andThen HD.out (show Below wc.heap.size wc _ by ((repeat first | refine bD ?_ | with_reducible refine bN ?_ | refine bA ?_ | refine bS ?_);first | exact bR | assumption | exact bN bR | exact bN (bN bR))))) (fun _ _ => rfl))).mono ?_;rintro e we ⟨rfl,hbe⟩;have hBe:Below wc.heap.size wc we:=Below.trans (show Below wc.heap.size wc _ by ((repeat first | refine bD ?_ | with_reducible refine bN ?_ | refine bA ?_ | refine bS ?_);first | exact bR | assumption | exact bN bR | exact bN (bN bR))) (hbe.mono (Below.size (show Below wc.heap.size wc _ by ((repeat first | refine bD ?_ | with_reducible refine bN ?_ | refine bA ?_ | refine bS ?_);first | exact bR | assumption | exact bN bR | exact bN (bN bR)))));have hSe:wc.heap.size≤we.heap.size:=Below.size hBe;clear hbe HX)
    | (go_at_call 181;refine (HY.out _ _ _ (Below.andThen HL.out (show Below wc.heap.size wc _ by ((repeat first | refine bD ?_ | with_reducible refine bN ?_ | refine bA ?_ | refine bS ?_);first | exact bR | assumption | exact bN bR | exact bN (bN bR)))) ((HX1.out.2.2.below' (Below.andThen HD.out (show Below wc.heap.size wc _ by ((repeat first | refine bD ?_ | with_reducible refine bN ?_ | refine bA ?_ | refine bS ?_);first | exact bR | assumption | exact bN bR | exact bN (bN bR)))) (Nat.le_refl _)).keep (Below.size (Below.andThen HD.out (show Below wc.heap.size wc _ by ((repeat first | refine bD ?_ | with_reducible refine bN ?_ | refine bA ?_ | refine bS ?_);first | exact bR | assumption | exact bN bR | exact bN (bN bR))))) (fun _ _ => rfl))).mono ?_;rintro e wf ⟨rfl,hbf⟩;have hBf:Below wc.heap.size wc wf:=Below.trans (show Below wc.heap.size wc _ by ((repeat first | refine bD ?_ | with_reducible refine bN ?_ | refine bA ?_ | refine bS ?_);first | exact bR | assumption | exact bN bR | exact bN (bN bR))) (hbf.mono (Below.size (show Below wc.heap.size wc _ by ((repeat first | refine bD ?_ | with_reducible refine bN ?_ | refine bA ?_ | refine bS ?_);first | exact bR | assumption | exact bN bR | exact bN (bN bR)))));have hSf:wc.heap.size≤wf.heap.size:=Below.size hBf;clear hbf HY))
  all_goals go_wp2_with fail
  all_goals go_ret
  all_goals exact ⟨_,rfl,Nat.le_trans (Below.andThen HW.out.2 HL.out).size (Below.size (show Below wc.heap.size wc _ by assumption)),heap_at _ _ _ rfl,Below.andThen HW.out.2 (Below.andThen HL.out (by ((repeat first | refine bD ?_ | with_reducible refine bN ?_ | refine bA ?_ | refine bS ?_);first | exact bR | assumption | exact bN bR | exact bN (bN bR))))⟩
end Go.Proofs.YtkeepngaaleakaaGreatDoor
