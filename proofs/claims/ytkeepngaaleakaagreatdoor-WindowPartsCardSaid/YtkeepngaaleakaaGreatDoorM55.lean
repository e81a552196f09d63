import Derived.Test.YtkeepngaaleakaaGreatDoorM28
import Derived.Test.YtkeepngaaleakaaGreatDoorM50
namespace Go.Proofs.YtkeepngaaleakaaGreatDoor.Tr
open Go.Proofs.YtkeepngaaleakaaGreatDoor.Z
def inB (lo hi:List Nat) (e:Ent):Bool:=Bx.isin lo hi e.1 e.1.length
def whB (lo hi:List Nat) (t:T):Bool:=Mk.whole t.pre t.lv lo hi t.pre.length
def hasB (lo hi:List Nat) (t:T) (a:Nat):Bool:=Mk.has t.pre.length (Mk.lowM t.pre (t.lv - 1) lo hi) (Mk.highM t.pre (t.lv - 1) lo hi) a
theorem bit_two (a b:Nat) (h:b < 2):Z.bit (2 * a + b) 0 = b∧∀ m,Z.bit (2 * a + b) (m + 1) = Z.bit a m:=by
  refine ⟨by unfold Z.bit;simp;omega,fun m => ?_⟩
  unfold Z.bit
  rw [Nat.pow_succ',← Nat.div_div_eq_div_mul,show (2 * a + b) / 2 = a by omega]
theorem addr_bit_take (p:List Nat) (l i:Nat):∀ j,j≤p.length→i < j→Z.bit (addr (p.take j) l) (j - 1 - i) = Z.bit (Bx.g p i) l
  | 0,_,hi => by omega
  | j + 1,hj,hi => by
    have hlt:j < p.length:=by omega
    rw [addr_take p l j hlt]
    have hb:=bit_two (addr (p.take j) l) (Z.bit p[j] l) (Z.bit_lt _ _)
    by_cases h:i = j
    · subst h
      rw [show i + 1 - 1 - i = 0 by omega,hb.1]
      unfold Bx.g
      rw [List.getD_eq_getElem?_getD,List.getElem?_eq_getElem hlt]
      rfl
    · rw [show j + 1 - 1 - i = (j - 1 - i) + 1 by omega,hb.2]
      exact addr_bit_take p l i j (by omega) (by omega)
theorem addr_bit (p:List Nat) (l i:Nat) (h:i < p.length):Z.bit (addr p l) (p.length - 1 - i) = Z.bit (Bx.g p i) l:=by
  have:=addr_bit_take p l i p.length (Nat.le_refl _) h
  rwa [List.take_length] at this
theorem cutN_up (u k:Nat):u≤cutN u k + (2 ^ k - 1):=by
  unfold cutN
  have h1:=Nat.div_add_mod u (2 ^ k)
  have h2:=Nat.mod_lt u (Nat.two_pow_pos k)
  have h3:u / 2 ^ k * 2 ^ k = 2 ^ k * (u / 2 ^ k):=Nat.mul_comm _ _
  omega
theorem g_cutN {us:List Nat} {i:Nat} (k:Nat):Bx.g (cut us k) i = cutN (Bx.g us i) k:=by
  unfold Bx.g cut
  rw [List.getD_eq_getElem?_getD,List.getD_eq_getElem?_getD,List.getElem?_map]
  cases us[i]? with
  | none => simp [cutN]
  | some u => rfl
theorem whole_in {k:Nat} {t:T} (h:Wf k t) {lo hi:List Nat} (hw:whB lo hi t = true):∀ e∈t.ents,inB lo hi e = true:=by
  intro e he
  have h1:=h.entry he
  unfold inB
  rw [Bx.isin_true]
  intro i hi
  have hlen:=h.len
  have h2:=(Mk.whole_true.1 hw) i (by omega)
  have h3:cutN (Bx.g e.1 i) t.lv = Bx.g t.pre i:=by rw [← g_cutN,h1.2.2]
  have h4:cutN (Bx.g t.pre i) t.lv = Bx.g t.pre i:=by rw [← g_cutN,h.cut_pre]
  rw [h4,← h3] at h2
  have h5:=cutN_le (Bx.g e.1 i) t.lv
  have h6:=cutN_up (Bx.g e.1 i) t.lv
  omega
theorem ent_whole (g:Nat) (p:List Nat) (v:Nat) (lo hi:List Nat):whB lo hi (.ent g p v) = inB lo hi (p,v):=by
  unfold whB inB
  rw [Bool.eq_iff_iff,Mk.whole_true,Bx.isin_true]
  have:∀ i,cutN (Bx.g p i) 0 = Bx.g p i:=fun i => cutN_zero _
  constructor
  · intro h i hi
    have h1:=h i hi
    simp only [T.lv,T.pre,this] at h1
    omega
  · intro h i hi
    have h1:=h i hi
    simp only [T.lv,T.pre,this]
    simp only at h1
    omega
theorem left_in {k g l:Nat} {pre:List Nat} {ks:List (Nat × T)} (h:Wf k (.br g l pre ks)) {lo hi:List Nat} {x:Nat × T} (hx:x∈ks) {e:Ent} (he:e∈x.2.ents) (hin:inB lo hi e = true):hasB lo hi (.br g l pre ks) x.1 = true:=by
  have hmem:e∈(T.br g l pre ks).ents:=by rw [ents_br];exact mem_entsL.2 ⟨x,hx,he⟩
  have h1:=h.entry hmem
  have h2:=kid_addr h hx he
  have hpl:pre.length = k:=h.len
  have hlt:x.1 < 2 ^ pre.length:=by
    rw [hpl]
    cases h with | br _ _ _ _ h63 hw => exact hw.lt x hx
  have hc:cut e.1 (l + 1) = pre:=h1.2.2
  have hi':=Bx.isin_true.1 hin
  have hemp:Bx.emp lo hi pre.length = false:=Bx.emp_false.2 fun i hi => by have:=hi' i (by rw [h1.1];omega);omega
  show Mk.has pre.length (Mk.lowM pre l lo hi) (Mk.highM pre l lo hi) x.1 = true
  rw [Mk.mask_touch hlt hemp,Mk.touch_true]
  intro i hi
  have h3:=hi' i (by rw [h1.1];omega)
  have h4:Bx.g (place pre l x.1) i = Mk.halfAt (Bx.g pre i) l (Z.bit x.1 (pre.length - 1 - i)):=Mk.g_place hi
  have h5:Bx.g (cut (place pre l x.1) l) i = cutN (Bx.g e.1 i) l:=by
    rw [g_cutN,h4,Mk.half_cut]
    unfold Mk.halfAt
    have e1:cutN (Bx.g pre i) (l + 1) = cutN (Bx.g e.1 i) (l + 1):=by
      rw [← hc,g_cutN,cutN_cutN _ _ _ (Nat.le_refl _)]
    have e2:Z.bit x.1 (pre.length - 1 - i) = Z.bit (Bx.g e.1 i) l:=by
      have hp2:addr e.1 l < 2 ^ e.1.length:=addr_bound e.1 l
      have:=addr_bit e.1 l i (by rw [h1.1];omega)
      rw [← h2,hpl,← h1.1]
      exact this
    rw [e1,e2,← cutN_succ]
  have h6:Bx.g (Bx.cellHi (place pre l x.1) l) i = cutN (Bx.g e.1 i) l + (2 ^ l - 1):=by
    have hpi:i < (place pre l x.1).length:=by rw [place_length];exact hi
    have:Bx.g (Bx.cellHi (place pre l x.1) l) i = cutN (Bx.g (place pre l x.1) i) l + (2 ^ l - 1):=Bx.g_tab _ hpi
    rw [this,← g_cutN,h5]
  rw [h5,h6]
  have h7:=cutN_le (Bx.g e.1 i) l
  have h8:=cutN_up (Bx.g e.1 i) l
  omega
/-! ### what a guide meets -/
def wholes (lo hi:List Nat) (t:T):List T :=
  if whB lo hi t = true then [t] else match t with
    | .ent _ _ _ => []
    | .br g l pre ks => ks.attach.flatMap fun x => if hasB lo hi (.br g l pre ks) x.1.1 = true then wholes lo hi x.1.2 else []
termination_by SizeOf.sizeOf t
decreasing_by
  have:=kid_lt x.2 g l pre
  simpa using this
theorem wholes_whole {lo hi:List Nat} {t:T} (h:whB lo hi t = true):wholes lo hi t = [t]:=by rw [wholes.eq_def,if_pos h]
theorem wholes_ent {lo hi:List Nat} {g:Nat} {p:List Nat} {v:Nat} (h:whB lo hi (.ent g p v) = false):wholes lo hi (.ent g p v) = []:=by rw [wholes.eq_def,if_neg (by simp [h])]
def wholesK (lo hi:List Nat) (t:T) (ks:List (Nat × T)):List T:=(ks.filter fun x => hasB lo hi t x.1).flatMap fun x => wholes lo hi x.2
theorem wholes_br {lo hi:List Nat} {g l:Nat} {pre:List Nat} {ks:List (Nat × T)} (h:whB lo hi (.br g l pre ks) = false):wholes lo hi (.br g l pre ks) = wholesK lo hi (.br g l pre ks) ks:=by
  rw [wholes.eq_def,if_neg (by simp [h])]
  have key:∀ (L:List (Nat × T)) (hL:∀ x∈L,x∈ks),(L.attachWith (·∈ks) hL).flatMap (fun x => if hasB lo hi (.br g l pre ks) x.1.1 = true then wholes lo hi x.1.2 else []) = wholesK lo hi (.br g l pre ks) L:=by
    intro L
    induction L with
    | nil => intro _;rfl
    | cons x L ih =>
      intro hL
      have h1:=ih fun y hy => hL y (List.mem_cons_of_mem _ hy)
      unfold wholesK at h1 ⊢
      rw [List.attachWith_cons,List.flatMap_cons,h1]
      cases hx:hasB lo hi (.br g l pre ks) x.1 <;> simp [hx]
  exact key ks fun _ h => h
theorem wholesK_cons (lo hi:List Nat) (t:T) (x:Nat × T) (ks:List (Nat × T)):wholesK lo hi t (x :: ks) = (if hasB lo hi t x.1 = true then wholes lo hi x.2 else []) ++ wholesK lo hi t ks:=by
  unfold wholesK
  cases hx:hasB lo hi t x.1 <;> simp [hx]
theorem filter_none {L:List Ent} {f:Ent→Bool} (h:∀ e∈L,f e = false):L.filter f = []:=List.filter_eq_nil_iff.2 fun e he => by simp [h e he]
theorem wholes_ents {k:Nat} {lo hi:List Nat} {t:T} (h:Wf k t):(wholes lo hi t).flatMap T.ents = t.ents.filter (inB lo hi):=by
  induction h with
  | ent g p v k1 k16 hl ho hv =>
    have h0:=ent_whole g p v lo hi
    cases hw:whB lo hi (.ent g p v) with
    | true =>
      rw [wholes_whole hw,ents_ent]
      rw [hw] at h0
      simp [ents_ent,← h0]
    | false =>
      rw [wholes_ent hw,ents_ent]
      rw [hw] at h0
      simp [← h0]
  | br g l pre ks h63 hw h2 hl ho hk hc ih =>
    have wf:Wf k (.br g l pre ks):=.br g l pre ks h63 hw h2 hl ho hk hc
    cases hwh:whB lo hi (.br g l pre ks) with
    | true =>
      rw [wholes_whole hwh]
      have:=whole_in wf hwh
      rw [List.filter_eq_self.2 this]
      simp
    | false =>
      rw [wholes_br hwh,ents_br]
      have key:∀ L:List (Nat × T),(∀ x∈L,x∈ks)→(wholesK lo hi (.br g l pre ks) L).flatMap T.ents = (entsL L).filter (inB lo hi):=by
        intro L
        induction L with
        | nil => intro _;rfl
        | cons x L ihL =>
          intro hL
          have hx:=hL x List.mem_cons_self
          have h1:=ihL fun y hy => hL y (List.mem_cons_of_mem _ hy)
          rw [wholesK_cons,List.flatMap_append,h1,entsL_cons,List.filter_append]
          congr 1
          cases hh:hasB lo hi (.br g l pre ks) x.1 with
          | true => rw [if_pos rfl];exact ih x hx
          | false =>
            rw [if_neg (by simp)]
            symm
            refine filter_none fun e he => ?_
            cases hin:inB lo hi e with
            | false => rfl
            | true => rw [left_in wf hx he hin] at hh;cases hh
      exact key ks fun _ h => h
end Go.Proofs.YtkeepngaaleakaaGreatDoor.Tr
namespace Go.Proofs.YtkeepngaaleakaaGreatDoor
open Go.ChangeShapes Go.WideShapes Go.ChangeAt Go.RowKit
abbrev gdV (C:Option Addr) (n d:Nat) (C':Option Addr) (n' d':Nat) (fi fp:Value):Value:=.agg #[.slice C n d,.slice C' n' d',fi,fp]
structure BoxP (w:World) (B k:Nat) (C:Option Addr) (lo:List Nat) (C':Option Addr) (hi:List Nat):Prop where
  pl:Pts w B C lo
  ph:Pts w B C' hi
  k1:1≤k
  k16:k≤16
  el:lo.length = k
  eh:hi.length = k
theorem BoxP.below {w w':World} {B B' D k:Nat} {C C':Option Addr} {lo hi:List Nat} (h:BoxP w B k C lo C' hi) (hb:Below D w w') (hD:B≤D) (hB:B≤B'):BoxP w' B' k C lo C' hi :=
  ⟨(h.pl.below' hb hD).keep hB (fun _ _ => rfl),(h.ph.below' hb hD).keep hB (fun _ _ => rfl),h.k1,h.k16,h.el,h.eh⟩
def leftV (lo hi:List Nat):Tr.T→Value
  | .ent _ _ _ => maskV 0 0 0
  | .br _ l pre _ => maskV (pre.length:Int) (Mk.lowM pre l lo hi:Int) (Mk.highM pre l lo hi:Int)
theorem lst_new (w:World) (A:Option Addr) (n c:Nat) (A':Option Addr) (n' c':Nat) (fi fp:Value):OSt0 w ((w.alloc (.cells #[.slice A n c,.slice A' n' c',fi,fp] 85)).alloc (.cells #[.int .i64 0,.int .i64 0,.int .i64 0] 222)) A n c A' n' c' :=
  ⟨(below_alloc _ _).alloc (by simp) _,BoxAt.below (w:=w.alloc (.cells #[.slice A n c,.slice A' n' c',fi,fp] 85)) ⟨by rw [World.cell?_alloc_new];rfl,by rw [World.cell?_alloc_new];rfl⟩ (below_alloc _ _) (by simp),m0_at (heap_at _ _ _ (by simp)),by simp⟩
set_option maxRecDepth 100000 in
theorem look_nil (C C':Option Addr) (n d n' d':Nat) (fi fp:Value) (w:World) :
    Calls Tryz.prog 162 #[gdV C n d C' n' d' fi fp,.pointer none] w fun e w' => e = .returned (.tuple #[.bool false,maskV 0 0 0])∧Below w.heap.size w w':=by
  have H1:=Lib.hid fun w1:World => mwhole_dim none C C' 0 0 n d n' d' (-1) w1 (by simp [maxLen]) (by omega)
  have H2:=Lib.hid fun w1:World => mof_dim none C C' 0 0 n d n' d' (-1) w1 (by simp [maxLen]) (by omega)
  have s0:=lst_new w C n d C' n' d' fi fp
  go_enter Tryz.func162,Tryz.ntmps162
  go_wp2_with first
    | (go_at_call 121;refine (nPrefix_nil _).mono ?_;rintro e w1 ⟨rfl,rfl⟩)
    | (go_at_call 120;refine (nLevel_nil _).mono ?_;rintro e w1 ⟨rfl,rfl⟩)
  refine (H1.out _).mono ?_
  rintro e w1 ⟨rfl,hb1⟩
  have s1:=s0.step hb1
  have s1':=s1
  obtain ⟨-,⟨k0,k1⟩,-,-⟩:=s1'
  clear s0 hb1
  go_wp2_with fail
  refine (H2.out _).mono ?_
  rintro e w2 ⟨rfl,hb2⟩
  have s2:=(s1.step hb2).mask 0 0 0
  have s2':=s2
  obtain ⟨-,-,⟨⟨r0,r1,r2⟩,f0,f1,f2⟩,⟨⟨m0,m1,m2⟩,-⟩,-⟩:=s2'
  clear k0 k1
  generalize hmb:w2.heap.size = mb at *
  go_wp2_with fail
  go_region
  all_goals go_wp2_with fail
  all_goals
    obtain ⟨hm,hbel⟩:=m0_out s2.2.2.1 s2.1 (by omega) 0 0 0
    replace hm:=hm.drew
    replace hbel:=hbel.drew
    clear r0 r1 r2 f0 f1 f2 m0 m1 m2 s2 hb2 s1
    revert hm hbel
    generalize World.drew _ = W'
    rintro ⟨t0,t1,t2⟩ hbel
    refine bodyPost_ret (v:=.tuple #[.bool false,maskV 0 0 0]) (by simp [results,Tryz.results162,go_sem,t0,t1,t2]) rfl ?_
    exact ⟨rfl,hbel⟩
theorem look_asks {w:World} {B k:Nat} {t:Tr.T} {C C':Option Addr} {lo hi:List Nat} (d d':Nat) (hN:Node w B k t) (hX:BoxP w B k C lo C' hi) (hB:B≤w.heap.size) (r:Bool) (hw:Tr.whB lo hi t = r) :
    (∀ w1:World,Below w.heap.size w w1→Calls Tryz.prog 121 #[.pointer (some ⟨t.blk,0,none⟩)] w1 fun e w' => ∃ h d,e = .returned (.slice (some ⟨h,0,none⟩) t.pre.length d)∧Own w' w1.heap.size (.slice (some ⟨h,0,none⟩) t.pre.length d) t.pre∧Below w1.heap.size w1 w') ∧
    (∀ w1:World,Below w.heap.size w w1→Calls Tryz.prog 120 #[.pointer (some ⟨t.blk,0,none⟩)] w1 fun e w' => e = .returned (.int .i64 (levI t))∧w1 = w') ∧
    (∀ w1:World,Below w.heap.size w w1→∀ (A:Option Addr) (c:Nat),Pts w1 w1.heap.size A t.pre→Calls Tryz.prog 217 #[.slice A t.pre.length c,.int .i64 (levI t),boxV C lo.length d C' hi.length d'] w1 fun e w' => e = .returned (.tuple #[.bool r,.int .i64 0])∧Below w1.heap.size w1 w'):=by
  obtain ⟨kp,hnd⟩:=hN.2.nd
  have h1:=hN.1.len
  have h2:=hX.k1
  have h3:=hX.k16
  have h4:=hX.el
  have h5:=hX.eh
  refine ⟨fun w1 hb => nPrefix_c (hnd.below hb hB (Nat.le_refl _)) (Nat.le_trans hB hb.size) (by intro h;rw [h] at h1;simp at h1;omega) (by omega),fun w1 hb => nLevel_c (hnd.below hb hB (Nat.le_refl _)),fun w1 hb A c hp => ?_⟩
  have hX1:=hX.below hb hB (Nat.le_trans hB hb.size)
  exact mwhole_yes A C C' c d d' t.pre lo hi (levI t) t.lv w1.heap.size w1 r hw hp hX1.pl hX1.ph (Nat.le_refl _) (by omega) (by omega) (by omega) (by omega) rfl hN.1.lv64
set_option maxRecDepth 100000 in
set_option maxHeartbeats 1600000 in
theorem look_yes {w:World} {B k:Nat} {t:Tr.T} {C C':Option Addr} {lo hi:List Nat} (d d':Nat) (fi fp:Value) (hN:Node w B k t) (hX:BoxP w B k C lo C' hi) (hB:B≤w.heap.size) (hw:Tr.whB lo hi t = true) :
    Calls Tryz.prog 162 #[gdV C lo.length d C' hi.length d' fi fp,.pointer (some ⟨t.blk,0,none⟩)] w fun e w' => e = .returned (.tuple #[.bool true,maskV 0 0 0])∧Below w.heap.size w w':=by
  obtain ⟨HP,HL,HW⟩:=look_asks d d' hN hX hB true hw
  replace HP:=Lib.hid HP
  replace HL:=Lib.hid HL
  replace HW:=Lib.hid HW
  have s0:=lst_new w C lo.length d C' hi.length d' fi fp
  clear hw hN hX hB
  go_enter Tryz.func162,Tryz.ntmps162
  go_wp2_with fail
  refine (HP.out _ s0.1).mono ?_
  rintro e w1 ⟨h,c,rfl,ho,hb1⟩
  have s1:=s0.step hb1
  clear s0 hb1
  obtain ⟨A,c',he,hp⟩:=ho.pts
  have hA:A = some ⟨h,0,none⟩:=by injection he with h1 h2 h3;exact h1.symm
  subst hA
  clear he ho
  have s1':=s1
  obtain ⟨-,⟨k0,k1⟩,-,-⟩:=s1'
  go_wp2_with fail
  refine (HL.out _ s1.1).mono ?_
  rintro e w2 ⟨rfl,rfl⟩
  go_wp2_with fail
  refine (HW.out _ s1.1 _ _ hp).mono ?_
  rintro e w2 ⟨rfl,hb2⟩
  have s2:=s1.step hb2
  have s2':=s2
  obtain ⟨-,-,⟨⟨r0,r1,r2⟩,f0,f1,f2⟩,-⟩:=s2'
  clear k0 k1 hp s1 hb2
  go_wp2_with fail
  obtain ⟨⟨t0,t1,t2⟩,hbel⟩:=m0_out s2.2.2.1 s2.1 (by omega) 0 0 0
  refine bodyPost_ret (v:=.tuple #[.bool true,maskV 0 0 0]) (by simp [results,Tryz.results162,go_sem,t0,t1,t2]) rfl ?_
  exact ⟨rfl,hbel⟩
theorem of_asks {w:World} {B k:Nat} {t:Tr.T} {C C':Option Addr} {lo hi:List Nat} (d d':Nat) (hN:Node w B k t) (hX:BoxP w B k C lo C' hi) (hB:B≤w.heap.size) :
    ∃ x y z co,leftV lo hi t = maskV x y z∧∀ w1:World,Below w.heap.size w w1→∀ (A:Option Addr) (c:Nat),Pts w1 w1.heap.size A t.pre→Calls Tryz.prog 218 #[.slice A t.pre.length c,.int .i64 (levI t),boxV C lo.length d C' hi.length d'] w1 fun e w' => e = .returned (.tuple #[maskV x y z,.int .i64 co])∧Below w1.heap.size w1 w':=by
  have h1:=hN.1.len
  have h2:=hX.k1
  have h3:=hX.k16
  have h4:=hX.el
  have h5:=hX.eh
  cases t with
  | ent g p v => exact ⟨0,0,0,3,rfl,fun w1 hb A c hp => mof_arg A C C' _ c _ d _ d' _ w1 (by omega) (by omega) (by omega) (by omega) (Or.inl (by simp [levI,Tr.T.lv]))⟩
  | br g l pre ks =>
    refine ⟨_,_,_,0,rfl,fun w1 hb A c hp => ?_⟩
    have hX1:=hX.below hb hB (Nat.le_trans hB hb.size)
    have hl:=hN.1.lv64
    have e:levI (.br g l pre ks) = (l:Int):=by simp [levI,Tr.T.lv]
    rw [e]
    exact mof_yes A C C' c d d' pre lo hi l w1.heap.size w1 hp hX1.pl hX1.ph (Nat.le_refl _) (by simp only [Tr.T.pre] at h1;omega) (by simp only [Tr.T.pre] at h1;omega) (by simp only [Tr.T.pre] at h1;omega) (by simp only [Tr.T.pre] at h1;omega) (by simp only [Tr.T.lv] at hl;omega)
set_option maxRecDepth 100000 in
set_option maxHeartbeats 1600000 in
theorem look_no {w:World} {B k:Nat} {t:Tr.T} {C C':Option Addr} {lo hi:List Nat} (d d':Nat) (fi fp:Value) (hN:Node w B k t) (hX:BoxP w B k C lo C' hi) (hB:B≤w.heap.size) (hw:Tr.whB lo hi t = false) :
    Calls Tryz.prog 162 #[gdV C lo.length d C' hi.length d' fi fp,.pointer (some ⟨t.blk,0,none⟩)] w fun e w' => e = .returned (.tuple #[.bool false,leftV lo hi t])∧Below w.heap.size w w':=by
  obtain ⟨HP,HL,HW⟩:=look_asks d d' hN hX hB false hw
  obtain ⟨x,y,z,co,hv,HO⟩:=of_asks d d' hN hX hB
  rw [hv]
  replace HP:=Lib.hid HP
  replace HL:=Lib.hid HL
  replace HW:=Lib.hid HW
  replace HO:=Lib.hid HO
  have s0:=lst_new w C lo.length d C' hi.length d' fi fp
  clear hw hN hX hB hv
  go_enter Tryz.func162,Tryz.ntmps162
  go_wp2_with fail
  refine (HP.out _ s0.1).mono ?_
  rintro e w1 ⟨h,c,rfl,ho,hb1⟩
  have s1:=s0.step hb1
  clear s0 hb1
  obtain ⟨A,c',he,hp⟩:=ho.pts
  have hA:A = some ⟨h,0,none⟩:=by injection he with h1 h2 h3;exact h1.symm
  subst hA
  clear he ho
  have s1':=s1
  obtain ⟨-,⟨k0,k1⟩,-,-⟩:=s1'
  go_wp2_with fail
  refine (HL.out _ s1.1).mono ?_
  rintro e w2 ⟨rfl,rfl⟩
  go_wp2_with fail
  refine (HW.out _ s1.1 _ _ hp).mono ?_
  rintro e w2 ⟨rfl,hb2⟩
  replace hp:=hp.below hb2 hb2.size
  replace s1:=s1.step hb2
  have s1':=s1
  clear k0 k1 hb2
  obtain ⟨-,⟨k0,k1⟩,-,-⟩:=s1'
  go_wp2_with fail
  refine (HO.out _ s1.1 _ _ hp).mono ?_
  rintro e w2 ⟨rfl,hb2⟩
  clear hp
  have s2:=(s1.step hb2).mask x y z
  have s2':=s2
  obtain ⟨-,-,⟨⟨r0,r1,r2⟩,f0,f1,f2⟩,⟨⟨m0,m1,m2⟩,-⟩,-⟩:=s2'
  clear k0 k1
  generalize hmb:w2.heap.size = mb at *
  go_wp2_with fail
  go_region
  all_goals go_wp2_with fail
  all_goals
    obtain ⟨hm,hbel⟩:=m0_out s2.2.2.1 s2.1 (by omega) x y z
    replace hm:=hm.drew
    replace hbel:=hbel.drew
    clear r0 r1 r2 f0 f1 f2 m0 m1 m2 s2 hb2 s1
    revert hm hbel
    generalize World.drew _ = W'
    rintro ⟨t0,t1,t2⟩ hbel
    refine bodyPost_ret (v:=.tuple #[.bool false,maskV x y z]) (by simp [results,Tryz.results162,go_sem,t0,t1,t2]) rfl ?_
    exact ⟨rfl,hbel⟩
end Go.Proofs.YtkeepngaaleakaaGreatDoor
namespace Go.Proofs.YtkeepngaaleakaaGreatDoor
open Go.ChangeShapes
open Tr (T S4 Ent)
def bey (k l h:Nat) (ks:List (Nat × T)) (a:Int):List (Nat × T):=ks.filter fun x => decide (a < (x.1:Int)) && Mk.has k l h x.1
theorem nextI_least {k l h:Nat} {a:Int} {n:Nat} (e:nextI k l h a = some n):a < (n:Int)∧Mk.has k l h n = true∧∀ m:Nat,a < (m:Int)→Mk.has k l h m = true→n≤m:=by
  unfold nextI at e
  obtain ⟨h1,us,vs,h2,h3⟩:=List.find?_eq_some_iff_append.1 e
  refine ⟨by simpa using h1,Mk.mem_left.1 (by rw [h2];simp),fun m hm hh => ?_⟩
  have hs:=Mk.left_sorted k l h
  have hmem:=Mk.mem_left.2 hh
  rw [h2] at hs hmem
  have h4:=(List.pairwise_append.1 hs).2.1
  rcases List.mem_append.1 hmem with c | c
  · have:=h3 m c
    simp at this
    omega
  · rcases List.mem_cons.1 c with c | c
    · omega
    · have:=(List.pairwise_cons.1 h4).1 m c
      omega
theorem nextI_none {k l h:Nat} {a:Int} (e:nextI k l h a = none):∀ m:Nat,a < (m:Int)→Mk.has k l h m = false:=by
  intro m hm
  unfold nextI at e
  cases c:Mk.has k l h m
  · rfl
  · have:=List.find?_eq_none.1 e m (Mk.mem_left.2 c)
    simp at this
    omega
theorem bey_stop {k l h:Nat} {ks:List (Nat × T)} {a:Int} (e:nextI k l h a = none):bey k l h ks a = []:=by
  refine List.filter_eq_nil_iff.2 fun x _ => ?_
  by_cases c:a < (x.1:Int)
  · simp [nextI_none e x.1 c]
  · simp [c]
theorem bey_end {k l h:Nat} {ks:List (Nat × T)} {a:Int} {n:Nat} (e:nextI k l h a = some n) (hk:ks[Sl.idx ks (n:Int)]? = none):bey k l h ks a = []:=by
  refine List.filter_eq_nil_iff.2 fun x hx => ?_
  obtain ⟨j,hj⟩:=List.getElem?_of_mem hx
  have h1:j < Sl.idx ks (n:Int):=by
    have:=List.getElem?_eq_none_iff.1 hk
    have:=(List.getElem?_eq_some_iff.1 hj).1
    omega
  have h2:=Sl.idx_below ks n j x h1 hj
  intro c
  simp only [Bool.and_eq_true,decide_eq_true_eq] at c
  have:=(nextI_least e).2.2 x.1 c.1 c.2
  omega
theorem bey_kid {k l h:Nat} {ks:List (Nat × T)} (hs:Sl.Srt ks) {a:Int} {n:Nat} (e:nextI k l h a = some n) {x:Nat × T} (hk:ks[Sl.idx ks (n:Int)]? = some x) :
    bey k l h ks a = (if Mk.has k l h x.1 = true then [x] else []) ++ bey k l h ks (x.1:Int)∧a < (x.1:Int):=by
  obtain ⟨l1,l2,l3⟩:=nextI_least e
  have hax:=Sl.idx_at ks n x hk
  have hlt:=(List.getElem?_eq_some_iff.1 hk).1
  generalize hi:Sl.idx ks (n:Int) = i at *
  have hsplit:ks = ks.take i ++ x :: ks.drop (i + 1):=by
    have h1:=List.drop_eq_getElem_cons hlt
    rw [(List.getElem?_eq_some_iff.1 hk).2] at h1
    rw [← h1,List.take_append_drop]
  have hA:∀ y∈ks.take i,(y.1:Int) < n:=fun y hy => by
    obtain ⟨j,hj⟩:=List.getElem?_of_mem hy
    have hji:j < i:=by have:=(List.getElem?_eq_some_iff.1 hj).1;simp at this;omega
    rw [List.getElem?_take_of_lt hji] at hj
    exact Sl.idx_below ks n j y (by omega) hj
  have hC:∀ y∈ks.drop (i + 1),x.1 < y.1:=fun y hy => by
    rw [hsplit] at hs
    exact (List.pairwise_cons.1 (List.pairwise_append.1 hs).2.1).1 y hy
  refine ⟨?_,by omega⟩
  have hf1:bey k l h (ks.take i) a = []:=List.filter_eq_nil_iff.2 fun y hy c => by
    simp only [Bool.and_eq_true,decide_eq_true_eq] at c
    have h1:=l3 y.1 c.1 c.2
    have h2:=hA y hy
    omega
  have hf2:bey k l h (ks.take i) (x.1:Int) = []:=List.filter_eq_nil_iff.2 fun y hy c => by
    simp only [Bool.and_eq_true,decide_eq_true_eq] at c
    have h2:=hA y hy
    omega
  have hf3:bey k l h (ks.drop (i + 1)) a = bey k l h (ks.drop (i + 1)) (x.1:Int):=List.filter_congr fun y hy => by
    have h2:=hC y hy
    have h3:a < (y.1:Int):=by omega
    have h4:(x.1:Int) < (y.1:Int):=by omega
    simp only [decide_eq_true h3,decide_eq_true h4]
  have h5:a < (x.1:Int):=by omega
  have key:∀ b:Int,bey k l h ks b = bey k l h (ks.take i) b ++ (if (decide (b < (x.1:Int)) && Mk.has k l h x.1) = true then [x] else []) ++ bey k l h (ks.drop (i + 1)) b:=fun b => by
    conv => lhs;rw [hsplit]
    unfold bey
    rw [List.filter_append,List.filter_cons]
    split <;> simp
  rw [key a,key (x.1:Int),hf1,hf2,hf3,decide_eq_true h5,decide_eq_false (show ¬ (x.1:Int) < (x.1:Int) by omega)]
  simp
def byn (ks:List (Nat × T)) (a:Int):Nat:=(ks.filter fun x => decide (a < (x.1:Int))).length
theorem byn_lt {ks:List (Nat × T)} {a:Int} {x:Nat × T} (hx:x∈ks) (h:a < (x.1:Int)):byn ks (x.1:Int) < byn ks a:=by
  unfold byn
  have h1:(ks.filter fun y => decide ((x.1:Int) < (y.1:Int))) = (ks.filter fun y => decide (a < (y.1:Int))).filter fun y => decide ((x.1:Int) < (y.1:Int)):=by
    rw [List.filter_filter]
    refine List.filter_congr fun y _ => ?_
    by_cases c:(x.1:Int) < (y.1:Int)
    · have:a < (y.1:Int):=by omega
      simp [c,this]
    · simp [c]
  rw [h1]
  refine List.length_filter_lt_length_iff_exists.2 ⟨x,List.mem_filter.2 ⟨hx,by simpa using h⟩,by simp⟩
def metTo (go:List T→Bool):List T→List T→List T
  | us,[] => us
  | us,t :: r => if go (us ++ [t]) = true then metTo go (us ++ [t]) r else us ++ [t]
theorem metTo_on {go:List T→Bool} {us r:List T} {t:T} (h:go (us ++ [t]) = true):metTo go us (t :: r) = metTo go (us ++ [t]) r:=by simp [metTo,h]
theorem metTo_off {go:List T→Bool} {us r:List T} {t:T} (h:go (us ++ [t]) = false):metTo go us (t :: r) = us ++ [t]:=by simp [metTo,h]
def mk1:Option T→Nat
  | some (.br _ _ pre _) => pre.length
  | _ => 0
def mk2 (lo hi:List Nat):Option T→Nat
  | some (.br _ l pre _) => Mk.lowM pre l lo hi
  | _ => 0
def mk3 (lo hi:List Nat):Option T→Nat
  | some (.br _ l pre _) => Mk.highM pre l lo hi
  | _ => 0
def ksO:Option T→List (Nat × T)
  | some t => t.ks
  | none => []
def leftO (lo hi:List Nat) (o:Option T):Value:=maskV (mk1 o:Int) (mk2 lo hi o:Int) (mk3 lo hi o:Int)
theorem leftO_some (lo hi:List Nat) (t:T):leftO lo hi (some t) = leftV lo hi t:=by cases t <;> rfl
def beyO (lo hi:List Nat) (o:Option T) (a:Int):List (Nat × T):=bey (mk1 o) (mk2 lo hi o) (mk3 lo hi o) (ksO o) a
def wholesO (lo hi:List Nat):Option T→List T
  | some t => Tr.wholes lo hi t
  | none => []
def whO (lo hi:List Nat):Option T→Bool
  | some t => Tr.whB lo hi t
  | none => false
structure WFr where
  o:Option T
  a:Int
  p:Option Addr
  A:Option Addr
  m:Nat
  c:Nat
def WFr.own (x:WFr):Option Nat:=x.A.map (·.block)
def pend (lo hi:List Nat) (x:WFr):List T:=(beyO lo hi x.o x.a).flatMap fun y => Tr.wholes lo hi y.2
def restW (lo hi:List Nat) (S:List WFr):List T:=S.flatMap (pend lo hi)
theorem restW_nil (lo hi:List Nat):restW lo hi [] = []:=rfl
theorem restW_cons (lo hi:List Nat) (x:WFr) (S:List WFr):restW lo hi (x :: S) = pend lo hi x ++ restW lo hi S:=rfl
def todo (lo hi:List Nat) (x:WFr):Nat:=(Tr.allK (beyO lo hi x.o x.a)).length
def todoW (lo hi:List Nat) (S:List WFr):Nat:=(S.map (todo lo hi)).sum
theorem todoW_cons (lo hi:List Nat) (x:WFr) (S:List WFr):todoW lo hi (x :: S) = todo lo hi x + todoW lo hi S:=by simp [todoW]
def todoO (o:Option T):Nat:=(Tr.allO o).length
theorem allK_filter (f:Nat × T→Bool):∀ ks:List (Nat × T),(Tr.allK (ks.filter f)).length≤(Tr.allK ks).length
  | [] => Nat.le_refl _
  | x :: ks => by
    have ih:=allK_filter f ks
    rw [List.filter_cons]
    split
    · rw [Tr.allK_cons,Tr.allK_cons,List.length_append,List.length_append];omega
    · rw [Tr.allK_cons,List.length_append];omega
theorem bey_first {k l h:Nat} (ks:List (Nat × T)):bey k l h ks (-1) = ks.filter fun x => Mk.has k l h x.1:=by
  refine List.filter_congr fun x _ => ?_
  have:(-1:Int) < (x.1:Int):=by omega
  simp [this]
theorem pend_push {lo hi:List Nat} {o:Option T} {p A:Option Addr} {m c:Nat} (h:whO lo hi o = false):pend lo hi ⟨o,-1,p,A,m,c⟩ = wholesO lo hi o:=by
  cases o with
  | none => rfl
  | some t =>
    cases t with
    | ent g q v =>
      have:Tr.wholes lo hi (.ent g q v) = []:=Tr.wholes_ent h
      simp only [wholesO,this]
      rfl
    | br g l pre ks =>
      have e:Tr.wholes lo hi (.br g l pre ks) = Tr.wholesK lo hi (.br g l pre ks) ks:=Tr.wholes_br h
      simp only [wholesO,e]
      unfold pend beyO Tr.wholesK
      simp only [mk1,mk2,mk3,ksO,T.ks]
      rw [bey_first]
      rfl
theorem todo_push {lo hi:List Nat} {o:Option T} {p A:Option Addr} {m c:Nat}:todo lo hi ⟨o,-1,p,A,m,c⟩≤todoO o - 1:=by
  cases o with
  | none => exact Nat.le_refl _
  | some t =>
    unfold todo todoO
    simp only [Tr.allO]
    rw [Tr.all_eq]
    simp only [List.length_cons,beyO,ksO]
    unfold bey
    have:=allK_filter (fun x => decide (-1 < (x.1:Int)) && Mk.has (mk1 (some t)) (mk2 lo hi (some t)) (mk3 lo hi (some t)) x.1) t.ks
    omega
theorem todoO_pos (t:T):1≤todoO (some t):=by
  unfold todoO
  simp only [Tr.allO]
  rw [Tr.all_eq]
  simp
theorem pend_step {lo hi:List Nat} {o:Option T} {a:Int} {p p' A:Option Addr} {m c:Nat} {x:Nat × T} {r:List (Nat × T)} (h:beyO lo hi o a = x :: r) (h2:beyO lo hi o (x.1:Int) = r) :
    pend lo hi ⟨o,a,p,A,m,c⟩ = Tr.wholes lo hi x.2 ++ pend lo hi ⟨o,(x.1:Int),p',A,m,c⟩∧todo lo hi ⟨o,a,p,A,m,c⟩ = todoO (some x.2) + todo lo hi ⟨o,(x.1:Int),p',A,m,c⟩:=by
  unfold pend todo
  simp only
  rw [h,h2,List.flatMap_cons,Tr.allK_cons,List.length_append]
  exact ⟨rfl,rfl⟩
theorem pend_done {lo hi:List Nat} {x:WFr} (h:beyO lo hi x.o x.a = []):pend lo hi x = []∧todo lo hi x = 0:=by
  unfold pend todo
  rw [h]
  exact ⟨rfl,rfl⟩
/-! ### the stack in memory -/
def FrQ (lo hi:List Nat) (f:Nat→Option Value) (x:WFr):Prop :=
  f 0 = some (.pointer (rootP x.o))∧f 1 = some (.int .i64 (mk1 x.o:Int))∧f 2 = some (.int .i64 (mk2 lo hi x.o:Int))∧f 3 = some (.int .i64 (mk3 lo hi x.o:Int))∧f 4 = some (.int .i64 x.a)∧f 5 = some (.pointer x.p)∧f 6 = some (.slice x.A x.m x.c)
theorem frQ_ok (lo hi:List Nat):QOk 7 (FrQ lo hi) where
  ext:=by
    rintro f g s h ⟨h0,h1,h2,h3,h4,h5,h6⟩
    exact ⟨(h 0 (by omega)).symm.trans h0,(h 1 (by omega)).symm.trans h1,(h 2 (by omega)).symm.trans h2,(h 3 (by omega)).symm.trans h3,(h 4 (by omega)).symm.trans h4,(h 5 (by omega)).symm.trans h5,(h 6 (by omega)).symm.trans h6⟩
  has:=by
    rintro f s ⟨h0,h1,h2,h3,h4,h5,h6⟩ j hj
    match j,hj with
    | 0,_ => exact ⟨_,h0,rfl⟩
    | 1,_ => exact ⟨_,h1,rfl⟩
    | 2,_ => exact ⟨_,h2,rfl⟩
    | 3,_ => exact ⟨_,h3,rfl⟩
    | 4,_ => exact ⟨_,h4,rfl⟩
    | 5,_ => exact ⟨_,h5,rfl⟩
    | 6,_ => exact ⟨_,h6,rfl⟩
abbrev Met:=Int × Option Addr × Option Addr
def MeQ (f:Nat→Option Value) (x:Met):Prop:=f 0 = some (.int .i64 x.1)∧f 1 = some (.pointer x.2.1)∧f 2 = some (.pointer x.2.2)
theorem meQ_ok:QOk 3 MeQ where
  ext:=by
    rintro f g s h ⟨h0,h1,h2⟩
    exact ⟨(h 0 (by omega)).symm.trans h0,(h 1 (by omega)).symm.trans h1,(h 2 (by omega)).symm.trans h2⟩
  has:=by
    rintro f s ⟨h0,h1,h2⟩ j hj
    match j,hj with
    | 0,_ => exact ⟨_,h0,rfl⟩
    | 1,_ => exact ⟨_,h1,rfl⟩
    | 2,_ => exact ⟨_,h2,rfl⟩
abbrev StkW (lo hi:List Nat) (w:World) (base:Nat) (v:Value) (S:List WFr):Prop:=OwnL 226 7 (FrQ lo hi) w base v S.reverse
theorem own_blockW (A:Option Addr) (n c:Nat):(Value.slice A n c).ownBlock = A.map (·.block):=by cases A <;> rfl
def RowK (w:World) (base:Nat) (x:WFr):Prop:=∃ L:List Met,L.length = x.m∧OwnL 160 3 MeQ w base (.slice x.A x.m x.c) L
theorem RowK.block {w w':World} {base:Nat} {x:WFr} (h:RowK w base x) (hb:∀ q,x.own = some q→w'.heap[q]? = w.heap[q]?):RowK w' base x:=by
  obtain ⟨L,h1,h2⟩:=h
  exact ⟨L,h1,h2.block fun q hq => hb q (by rw [own_blockW] at hq;exact hq)⟩
theorem RowK.lt {w:World} {base:Nat} {x:WFr} (h:RowK w base x):∀ q,x.own = some q→base≤q∧q < w.heap.size:=fun q hq => by
  obtain ⟨L,h1,h2⟩:=h
  exact h2.lt q (by rw [own_blockW];exact hq)
end Go.Proofs.YtkeepngaaleakaaGreatDoor
namespace Go.Proofs.YtkeepngaaleakaaGreatDoor
open Go.ChangeShapes Go.WideShapes Go.ChangeAt Go.RowKit
open Tr (T S4 Ent)
structure StepC (cs:Array Value) (off g k l h:Nat) (a:Int) (p:Option Addr):Prop where
  c0:cs[off]? = some (.pointer (some ⟨g,0,none⟩))
  c1:cs[off + 1]? = some (.int .i64 (k:Int))
  c2:cs[off + 2]? = some (.int .i64 (l:Int))
  c3:cs[off + 3]? = some (.int .i64 (h:Int))
  c4:cs[off + 4]? = some (.int .i64 a)
  c5:cs[off + 5]? = some (.pointer p)
def stepTo (cs:Array Value) (off:Nat) (a:Int) (p:Option Addr):Array Value:=(cs.setIfInBounds (off + 4) (.int .i64 a)).setIfInBounds (off + 5) (.pointer p)
theorem StepC.to {cs:Array Value} {off g k l h:Nat} {a:Int} {p:Option Addr} (s:StepC cs off g k l h a p) (a':Int) (p':Option Addr):StepC (stepTo cs off a' p') off g k l h a' p':=by
  have h4:=(Array.getElem?_eq_some_iff.1 s.c4).1
  have h5:=(Array.getElem?_eq_some_iff.1 s.c5).1
  unfold stepTo
  refine ⟨?_,?_,?_,?_,?_,?_⟩
  · rw [Array.getElem?_setIfInBounds_ne (by omega),Array.getElem?_setIfInBounds_ne (by omega)];exact s.c0
  · rw [Array.getElem?_setIfInBounds_ne (by omega),Array.getElem?_setIfInBounds_ne (by omega)];exact s.c1
  · rw [Array.getElem?_setIfInBounds_ne (by omega),Array.getElem?_setIfInBounds_ne (by omega)];exact s.c2
  · rw [Array.getElem?_setIfInBounds_ne (by omega),Array.getElem?_setIfInBounds_ne (by omega)];exact s.c3
  · rw [Array.getElem?_setIfInBounds_ne (by omega),Array.getElem?_setIfInBounds_self_of_lt h4]
  · rw [Array.getElem?_setIfInBounds_self_of_lt (by simpa using h5)]
theorem stepTo_again (cs:Array Value) (off:Nat) (a a':Int) (p p':Option Addr):stepTo (stepTo cs off a p) off a' p' = stepTo cs off a' p':=by
  unfold stepTo
  apply Array.ext_getElem?
  intro i
  simp only [Array.getElem?_setIfInBounds,Array.size_setIfInBounds]
  split <;> split <;> simp_all
theorem StepC.self {cs:Array Value} {off g k l h:Nat} {a:Int} {p:Option Addr} (s:StepC cs off g k l h a p):stepTo cs off a p = cs:=by
  have h4:=Array.getElem?_eq_some_iff.1 s.c4
  have h5:=Array.getElem?_eq_some_iff.1 s.c5
  unfold stepTo
  apply Array.ext_getElem?
  intro i
  simp only [Array.getElem?_setIfInBounds,Array.size_setIfInBounds]
  split
  · subst_vars;rw [if_pos h5.1,s.c5]
  · split
    · subst_vars;rw [if_pos h4.1,s.c4]
    · rfl
structure NxtI (w:World) (q off g k l h:Nat) (ks:List (Nat × T)) (cs:Array Value) (ty:TypeId) (a0:Int) (w':World) (a:Int) (p:Option Addr):Prop where
  blk:w'.heap[q]? = some (.cells (stepTo cs off a p) ty (0,0))
  cell:StepC (stepTo cs off a p) off g k l h a p
  foot:Foot (fun b => b = q) w w'
  same:bey k l h ks a = bey k l h ks a0
  lo:-1≤a
  hi:a≤65536
theorem step_cells {q off g k l h:Nat} {cs:Array Value} {ty:TypeId} {w':World} {a:Int} {p:Option Addr} (hblk:w'.heap[q]? = some (.cells cs ty (0,0))) (hcell:StepC cs off g k l h a p) :
    ∀ w2:World,Below w'.heap.size w' w2→w2.cell? ⟨q,off,none⟩ = some (.pointer (some ⟨g,0,none⟩))∧w2.cell? ⟨q,off + 1,none⟩ = some (.int .i64 (k:Int))∧w2.cell? ⟨q,off + 1 + 1,none⟩ = some (.int .i64 (l:Int))∧w2.cell? ⟨q,off + 1 + 2,none⟩ = some (.int .i64 (h:Int)) ∧
      w2.cell? ⟨q,off + 4,none⟩ = some (.int .i64 a)∧w2.cell? ⟨q,off + 5,none⟩ = some (.pointer p)∧w2.frozen? ⟨q,off + 4,none⟩ = false∧w2.frozen? ⟨q,off + 5,none⟩ = false:=by
  intro w2 hb
  have hq:q < w'.heap.size:=(Array.getElem?_eq_some_iff.1 hblk).1
  have h2:=(hb.block q hq).trans hblk
  obtain ⟨c0,c1,c2,c3,c4,c5⟩:=hcell
  exact ⟨by rw [cell_of_row w2 _ _ _ _ (0,0) h2];exact c0,by rw [cell_of_row w2 _ _ _ _ (0,0) h2];exact c1,by rw [cell_of_row w2 _ _ _ _ (0,0) h2];exact c2,by rw [cell_of_row w2 _ _ _ _ (0,0) h2];exact c3,by rw [cell_of_row w2 _ _ _ _ (0,0) h2];exact c4,by rw [cell_of_row w2 _ _ _ _ (0,0) h2];exact c5,
    frozen_of_row w2 _ _ _ ty h2,frozen_of_row w2 _ _ _ ty h2⟩
theorem NxtI.store {w:World} {q off g k l h:Nat} {ks:List (Nat × T)} {cs:Array Value} {ty:TypeId} {a0:Int} {w':World} {a:Int} {p:Option Addr} (s:NxtI w q off g k l h ks cs ty a0 w' a p) {wc:World} (hb:Below w'.heap.size w' wc) (i:Nat) (a':Int) (p':Option Addr) :
    (((wc.drewN i).setCell ⟨q,off + 4,none⟩ (.int .i64 a')).setCell ⟨q,off + 5,none⟩ (.pointer p')).heap[q]? = some (.cells (stepTo cs off a' p') ty (0,0))∧StepC (stepTo cs off a' p') off g k l h a' p' ∧
      Foot (fun b => b = q) w (((wc.drewN i).setCell ⟨q,off + 4,none⟩ (.int .i64 a')).setCell ⟨q,off + 5,none⟩ (.pointer p')):=by
  have h1:=((below_drewN i hb).block q (Array.getElem?_eq_some_iff.1 s.blk).1).trans s.blk
  have h2:=block_set (i:=off + 5) (block_set (i:=off + 4) h1 (.int .i64 a')) (.pointer p')
  have e:((stepTo cs off a p).setIfInBounds (off + 4) (.int .i64 a')).setIfInBounds (off + 5) (.pointer p') = stepTo cs off a' p':=stepTo_again cs off a a' p p'
  rw [e] at h2
  have h3:=s.cell.to a' p'
  rw [stepTo_again] at h3
  exact ⟨h2,h3,((s.foot.trans (Foot.of_below (F:=fun b => b = q) (below_drewN i hb)) (fun b hb => .inl hb)).trans (Foot.setCell _ (F:=fun b => b = q) (a:=⟨q,off + 4,none⟩) rfl _) (fun b hb => .inl hb)).trans (Foot.setCell _ (F:=fun b => b = q) (a:=⟨q,off + 5,none⟩) rfl _) (fun b hb => .inl hb)⟩
theorem NxtI.cells {w:World} {q off g k l h:Nat} {ks:List (Nat × T)} {cs:Array Value} {ty:TypeId} {a0:Int} {w':World} {a:Int} {p:Option Addr} (s:NxtI w q off g k l h ks cs ty a0 w' a p) :
    ∀ w2:World,Below w'.heap.size w' w2→w2.cell? ⟨q,off,none⟩ = some (.pointer (some ⟨g,0,none⟩))∧w2.cell? ⟨q,off + 1,none⟩ = some (.int .i64 (k:Int))∧w2.cell? ⟨q,off + 1 + 1,none⟩ = some (.int .i64 (l:Int))∧w2.cell? ⟨q,off + 1 + 2,none⟩ = some (.int .i64 (h:Int)) ∧
      w2.cell? ⟨q,off + 4,none⟩ = some (.int .i64 a)∧w2.cell? ⟨q,off + 5,none⟩ = some (.pointer p)∧w2.frozen? ⟨q,off + 4,none⟩ = false∧w2.frozen? ⟨q,off + 5,none⟩ = false:=by
  exact step_cells s.blk s.cell
def adrOf (q off:Nat) (w:World):Int:=match w.cell? ⟨q,off + 4,none⟩ with
  | some (.int _ a) => a
  | _ => 0
set_option maxRecDepth 1000000 in
set_option maxHeartbeats 4000000 in
theorem stepNext_c {w:World} {B k g lv l h:Nat} {pre:List Nat} {ks:List (Nat × T)} (hN:Node w B k (.br g lv pre ks)) (hT:∀ w',Below B w w'→Tz w') {q off:Nat} {cs:Array Value} {ty:TypeId} (hB:B≤q)
    (hq:w.heap[q]? = some (.cells cs ty (0,0))) {a:Int} {p:Option Addr} (hc:StepC cs off g k l h a p) (ha:-1≤a) (ha2:a≤65536) (hl:l < 2 ^ k) (hh:h < 2 ^ k) :
    Calls Tryz.prog 163 #[.pointer (some ⟨q,off,none⟩)] w fun e w' => ∃ (a':Int) (p':Option Addr),-1≤a'∧a'≤65536 ∧
      e = .returned (.bool (!(bey k l h ks a).isEmpty))∧(∀ x r,bey k l h ks a = x :: r→a' = (x.1:Int)∧p' = some ⟨x.2.blk,0,none⟩∧x∈ks∧bey k l h ks (x.1:Int) = r) ∧
      w'.heap[q]? = some (.cells (stepTo cs off a' p') ty (0,0))∧Foot (fun b => b = q) w w':=by
  have hqs:q < w.heap.size:=(Array.getElem?_eq_some_iff.1 hq).1
  have I0:NxtI w q off g k l h ks cs ty a w a p:=⟨by rw [hc.self];exact hq,by rw [hc.self];exact hc,Foot.refl _ _,rfl,ha,ha2⟩
  have hk1:=hN.1.k1
  have hk16:=hN.1.k16
  have HX:=Lib.hid (And.intro hN (And.intro hT (And.intro hB (And.intro hqs (And.intro hk1 (And.intro hk16 (And.intro hl hh)))))))
  have H0:=Lib.hid I0
  clear hN hT hB hq hc ha ha2 hl hh hqs I0 hk1 hk16
  go_enter Tryz.func163,Tryz.ntmps163
  go_wp2_with fail
  refine wp_scope_again 0 (fun a' w' => ∃ (a1:Int) (p1:Option Addr) (u1 u2 u3 u4 u5 u6 u7 u8 u9 u10 u11 u12 u13 u14 u15 u16 u17 u18 u19 u20 u21 u22 u23 u24 u25 u26 u27 u28 u29 u30 u31 u32 u33 u34 u35 u36 u37 u38 u39 u40 u41 u42 u43 u44 u45 u46 u47 u48 u49 u50 u51 u52 u53 u54 u55:Value),a' = { tmps:=#[.pointer (some ⟨q,off,none⟩),u1,u2,u3,u4,u5,u6,u7,u8,u9,u10,u11,u12,u13,u14,u15,u16,u17,u18,u19,u20,u21,u22,u23,u24,u25,u26,u27,u28,u29,u30,u31,u32,u33,u34,u35,u36,u37,u38,u39,u40,u41,u42,u43,u44,u45,u46,u47,u48,u49,u50,u51,u52,u53,u54,u55],defers:=[] }∧NxtI w q off g k l h ks cs ty a w' a1 p1) (fun _ w' => byn ks (adrOf q off w')) rfl ?first ?pass
  case first =>
    intro hp
    refine wp_seq (wp_label (hp _ _ ⟨a,p,_,_,_,_,_,_,_,_,_,_,_,_,_,_,_,_,_,_,_,_,_,_,_,_,_,_,_,_,_,_,_,_,_,_,_,_,_,_,_,_,_,_,_,_,_,_,_,_,_,_,_,_,_,_,_,rfl,H0.out⟩))
  case pass =>
    rintro a' w' ⟨a1,p1,u1,u2,u3,u4,u5,u6,u7,u8,u9,u10,u11,u12,u13,u14,u15,u16,u17,u18,u19,u20,u21,u22,u23,u24,u25,u26,u27,u28,u29,u30,u31,u32,u33,u34,u35,u36,u37,u38,u39,u40,u41,u42,u43,u44,u45,u46,u47,u48,u49,u50,u51,u52,u53,u54,u55,rfl,hI⟩
    obtain ⟨o,ho⟩:∃ o,nextI k l h a1 = o:=⟨_,rfl⟩
    have HI:=Lib.hid hI
    have HNx:=Lib.hid fun w2:World => mnext_yes k l h a1 w2 o ho ⟨by have:=HI.out.lo;omega,by have:=HI.out.hi;omega⟩ HX.out.2.2.2.2.1 HX.out.2.2.2.2.2.1 HX.out.2.2.2.2.2.2.1 HX.out.2.2.2.2.2.2.2
    have m0:∀ w2,Below w'.heap.size w' w2→w2.cell? ⟨q,off + 1,none⟩ = some (.int .i64 (k:Int)):=fun w2 hb => (HI.out.cells w2 hb).2.1
    have m1:∀ w2,Below w'.heap.size w' w2→w2.cell? ⟨q,off + 1 + 1,none⟩ = some (.int .i64 (l:Int)):=fun w2 hb => (HI.out.cells w2 hb).2.2.1
    have m2:∀ w2,Below w'.heap.size w' w2→w2.cell? ⟨q,off + 1 + 2,none⟩ = some (.int .i64 (h:Int)):=fun w2 hb => (HI.out.cells w2 hb).2.2.2.1
    have m3:∀ w2,Below w'.heap.size w' w2→w2.cell? ⟨q,off + 4,none⟩ = some (.int .i64 a1):=fun w2 hb => (HI.out.cells w2 hb).2.2.2.2.1
    have hbb:=Below.refl w'.heap.size w'
    have HO:=Lib.hid ho
    clear hI ho H0
    go_wp2_with fail
    go_region_held3 (fun w2 => Below w'.heap.size w' w2) (((repeat first | refine bD ?_ | with_reducible refine bN ?_ | refine bA ?_ | refine bS ?_);first | exact bR | assumption | exact bN bR | exact bN (bN bR)))
      ((go_at_call 219;refine (HNx.out _).mono ?_;rintro e wc ⟨rfl,hbc⟩;have hBc:=Below.trans (show Below w'.heap.size w' _ by ((repeat first | refine bD ?_ | with_reducible refine bN ?_ | refine bA ?_ | refine bS ?_);first | exact bR | assumption | exact bN bR | exact bN (bN bR))) (hbc.mono (Below.size (show Below w'.heap.size w' _ by ((repeat first | refine bD ?_ | with_reducible refine bN ?_ | refine bA ?_ | refine bS ?_);first | exact bR | assumption | exact bN bR | exact bN (bN bR)))));clear hbc))
    clear m0 m1 m2 m3
    cases o with
    | none =>
      simp only [Option.getD_none,Option.isSome_none]
      go_wp2_with fail
      simp only [Exit.jump]
      go_ret
      have e:=bey_stop (ks:=ks) HO.out
      rw [HI.out.same] at e
      have hI2:=HI.out
      refine ⟨a1,p1,hI2.lo,hI2.hi,by rw [e];rfl,fun x r hx => by rw [e] at hx;simp at hx,(hBc.block q (Array.getElem?_eq_some_iff.1 hI2.blk).1).trans hI2.blk,hI2.foot.trans (Foot.of_below (F:=fun b => b = q) hBc) (fun b hb => .inl hb)⟩
    | some n =>
      simp only [Option.getD_some,Option.isSome_some]
      have hn:=Lib.hid (nextI_least HO.out)
      have hn16:n < 65536:=by
        have h1:=(Mk.has_iff.1 hn.out.2.1).1
        have h2:=pow16 HX.out.2.2.2.2.2.1
        omega
      obtain ⟨kx,hkx⟩:∃ kx,ks[Sl.idx ks (n:Int)]? = kx:=⟨_,rfl⟩
      have hbel:Below B w wc:=(HI.out.foot.below (show B≤w.heap.size by have:=HX.out.2.2.1;have:=HX.out.2.2.2.1;omega) (fun b hb => by have:=HX.out.2.2.1;omega)).trans (hBc.mono (by have:=HX.out.2.2.1;have:=HX.out.2.2.2.1;have:=HI.out.foot.size;omega))
      have HFr:=Lib.hid (nFrom_c (HX.out.1.below hbel (Nat.le_refl _) (Nat.le_refl _)).2 (HX.out.2.1 _ hbel) (n:Int) (by omega) (by omega) (kidP kx) (by rw [← hkx];rfl))
      simp only [T.blk] at HFr
      have cc:∀ i,Hid _:=fun i => Lib.hid (HI.out.cells (wc.drewN i) (below_drewN i hBc))
      obtain ⟨b0,-,-,-,-,-,-,-⟩:=HI.out.cells wc hBc
      have Hst:=Lib.hid fun i => HI.out.store hBc i ((kidP kx).1:Int) (kidP kx).2
      have Hkx:=Lib.hid hkx
      clear hkx hbel hBc
      cases kx with
      | none =>
        simp only [kidP,Option.map_none,Option.getD_none] at HFr Hst
        go_wp2_with (go_at_call 149;refine HFr.out.mono ?_;rintro e w3 ⟨rfl,i,rfl⟩;obtain ⟨b0',b1,b2,b3,b4,b5,f4,f5⟩:=(cc i).out)
        obtain ⟨s1,s2,s3⟩:=Hst.out i
        revert s1 s3
        generalize World.setCell _ _ _ = W3
        intro s1 s3
        obtain ⟨-,-,-,-,-,b5,-,-⟩:=step_cells s1 s2 W3 (Below.refl _ _)
        have HS:=Lib.hid (And.intro s1 s3)
        clear s1 s2 s3 Hst cc b0 b0' b1 b2 b3 b4 f4 f5
        go_quiet (fail)
        go_wp2_with fail
        simp only [Exit.jump]
        go_ret
        have e:=bey_end HO.out Hkx.out
        rw [HI.out.same] at e
        exact ⟨((0:Nat):Int),none,by omega,by omega,by rw [e];rfl,fun x r hx => by rw [e] at hx;simp at hx,HS.out.1,HS.out.2.drewN _⟩
      | some x =>
        simp only [kidP,Option.map_some,Option.getD_some] at HFr Hst
        go_wp2_with (go_at_call 149;refine HFr.out.mono ?_;rintro e w3 ⟨rfl,i,rfl⟩;obtain ⟨b0',b1,b2,b3,b4,b5,f4,f5⟩:=(cc i).out)
        obtain ⟨s1,s2,s3⟩:=Hst.out i
        revert s1 s3
        generalize World.setCell _ _ _ = W3
        intro s1 s3
        have hcx:=Lib.hid (step_cells s1 s2)
        have m0:∀ w2,Below W3.heap.size W3 w2→w2.cell? ⟨q,off + 1,none⟩ = some (.int .i64 (k:Int)):=fun w2 hb => (hcx.out w2 hb).2.1
        have m1:∀ w2,Below W3.heap.size W3 w2→w2.cell? ⟨q,off + 1 + 1,none⟩ = some (.int .i64 (l:Int)):=fun w2 hb => (hcx.out w2 hb).2.2.1
        have m2:∀ w2,Below W3.heap.size W3 w2→w2.cell? ⟨q,off + 1 + 2,none⟩ = some (.int .i64 (h:Int)):=fun w2 hb => (hcx.out w2 hb).2.2.2.1
        have m3:∀ w2,Below W3.heap.size W3 w2→w2.cell? ⟨q,off + 4,none⟩ = some (.int .i64 (x.1:Int)):=fun w2 hb => (hcx.out w2 hb).2.2.2.2.1
        have m4:∀ w2,Below W3.heap.size W3 w2→w2.cell? ⟨q,off + 5,none⟩ = some (.pointer (some ⟨x.2.blk,0,none⟩)):=fun w2 hb => (hcx.out w2 hb).2.2.2.2.2.1
        have hbb:=Below.refl W3.heap.size W3
        have hmem:=List.mem_of_getElem? Hkx.out
        have hx16:x.1 < 65536:=by
          have h1:=HX.out.1.1
          cases h1 with
          | br _ _ _ _ _ hw _ _ _ _ _ =>
            have h2:=hw.lt x hmem
            have h3:=pow16 HX.out.2.2.2.2.2.1
            omega
        obtain ⟨r,hr⟩:∃ r,Mk.hasI k l h (x.1:Int) = r:=⟨_,rfl⟩
        have HHs:=Lib.hid fun w2:World => mhas_yes k l h (x.1:Int) w2 r hr HX.out.2.2.2.2.1 HX.out.2.2.2.2.2.1 HX.out.2.2.2.2.2.2.1 HX.out.2.2.2.2.2.2.2 (i64_nat hx16)
        have HS:=Lib.hid (And.intro s1 (And.intro s2 (And.intro s3 (And.intro hmem (And.intro hx16 hr)))))
        clear s1 s2 s3 Hst cc b0 b0' b1 b2 b3 b4 b5 f4 f5 hmem hx16 hr
        go_region_held3 (fun w2 => Below W3.heap.size W3 w2) (((repeat first | refine bD ?_ | with_reducible refine bN ?_ | refine bA ?_ | refine bS ?_);first | exact bR | assumption | exact bN bR | exact bN (bN bR)))
          ((go_at_call 220;refine (HHs.out _).mono ?_;rintro e wd ⟨rfl,hbd⟩;have hBd:=Below.trans (show Below W3.heap.size W3 _ by ((repeat first | refine bD ?_ | with_reducible refine bN ?_ | refine bA ?_ | refine bS ?_);first | exact bR | assumption | exact bN bR | exact bN (bN bR))) (hbd.mono (Below.size (show Below W3.heap.size W3 _ by ((repeat first | refine bD ?_ | with_reducible refine bN ?_ | refine bA ?_ | refine bS ?_);first | exact bR | assumption | exact bN bR | exact bN (bN bR)))));clear hbd))
        have m5:=m4 _ hBd
        clear m0 m1 m2 m3 m4
        cases r with
        | true =>
          go_wp2_with fail
          simp only [Exit.jump]
          go_ret
          obtain ⟨s1,s2,s3,hmem,hx16,hr⟩:=HS.out
          have e:=(bey_kid HX.out.1.1.srt HO.out Hkx.out).1
          rw [Mk.hasI_nat] at hr
          simp only [T.ks] at e
          rw [if_pos hr,HI.out.same] at e
          exact ⟨(x.1:Int),some ⟨x.2.blk,0,none⟩,by omega,by omega,by rw [e];rfl,fun y r hy => by
            rw [e] at hy
            simp only [List.cons_append,List.nil_append,List.cons.injEq] at hy
            obtain ⟨rfl,rfl⟩:=hy
            exact ⟨rfl,rfl,hmem,rfl⟩,(hBd.block q (Array.getElem?_eq_some_iff.1 s1).1).trans s1,s3.trans (Foot.of_below (F:=fun b => b = q) hBd) (fun b hb => .inl hb)⟩
        | false =>
          go_wp2_with fail
          obtain ⟨s1,s2,s3,hmem,hx16,hr⟩:=HS.out
          have hks:=bey_kid HX.out.1.1.srt HO.out Hkx.out
          have e:=hks.1
          have hlt:=hks.2
          rw [Mk.hasI_nat] at hr
          simp only [T.ks] at e
          rw [if_neg (by simp [hr]),List.nil_append,HI.out.same] at e
          have hblk:=(hBd.block q (Array.getElem?_eq_some_iff.1 s1).1).trans s1
          have hfin:NxtI w q off g k l h ks cs ty a wd (x.1:Int) (some ⟨x.2.blk,0,none⟩):=⟨hblk,s2,s3.trans (Foot.of_below (F:=fun b => b = q) hBd) (fun b hb => .inl hb),e.symm,by omega,by omega⟩
          refine wp_goto ?_
          simp only [Exit.then]
          have a1e:adrOf q off w' = a1:=by unfold adrOf;rw [(HI.out.cells w' (Below.refl _ _)).2.2.2.2.1]
          have a2e:adrOf q off wd = (x.1:Int):=by unfold adrOf;rw [(hfin.cells wd (Below.refl _ _)).2.2.2.2.1]
          have key:byn ks (adrOf q off wd) < byn ks (adrOf q off w'):=by rw [a1e,a2e];exact byn_lt hmem hlt
          exact ⟨rfl,⟨(x.1:Int),some ⟨x.2.blk,0,none⟩,_,_,_,_,_,_,_,_,_,_,_,_,_,_,_,_,_,_,_,_,_,_,_,_,_,_,_,_,_,_,_,_,_,_,_,_,_,_,_,_,_,_,_,_,_,_,_,_,_,_,_,_,_,_,_,rfl,hfin⟩,key⟩
/-! ### refusal -/
set_option maxRecDepth 100000 in
theorem wrefusal_yes {w:World} {b k:Nat} {r:Option Addr} (h:TreC w b k r) (hb:b < w.heap.size) (A A':Option Addr) (n c n' c':Nat) (h1:1≤n) (h16:n≤16) (hn:n = n') (rb:Bool) (hk:((n:Int) != (k:Int)) = rb) :
    Calls Tryz.prog 107 #[.pointer (some ⟨b,0,none⟩),boxV A n c A' n' c'] w fun e w' => e = .returned (.int .i64 (if rb = true then 2 else 0))∧Below w.heap.size w w':=by
  have HR:=Lib.hid fun w1:World => bright_y A A' n c n' c' w1 h1 h16 hn
  have HT:=Lib.hid fun (w1:World) (hw:Below w.heap.size w w1) => tK_c (h.below hw hb)
  have Hk:=Lib.hid hk
  have hbel:=below_alloc w (.cells #[.slice A n c,.slice A' n' c'] 25)
  have hx:=boxAt_new w A n c A' n' c'
  have hlt:w.heap.size < (w.alloc (.cells #[.slice A n c,.slice A' n' c'] 25)).heap.size:=by simp
  clear h h1 h16 hn hk
  go_enter Tryz.func107,Tryz.ntmps107
  go_wp2_with fail
  generalize w.alloc (.cells #[.slice A n c,.slice A' n' c'] 25) = W at *
  have m0:∀ w2,Below W.heap.size W w2→w2.cell? ⟨w.heap.size,0,none⟩ = some (.slice A n c):=fun w2 hb => (hx.below hb hlt).1
  have m1:∀ w2,Below W.heap.size W w2→w2.cell? ⟨w.heap.size,1,none⟩ = some (.slice A' n' c'):=fun w2 hb => (hx.below hb hlt).2
  have hbb:=Below.refl W.heap.size W
  go_region_held3 (fun w2 => Below W.heap.size W w2) (((repeat first | refine bD ?_ | with_reducible refine bN ?_ | refine bA ?_ | refine bS ?_);first | exact bR | assumption | exact bN bR | exact bN (bN bR)))
    ((first
      | (go_at_call 161;refine (HR.out _).mono ?_;rintro e wd ⟨rfl,hbd⟩;have hBd:=Below.trans (show Below W.heap.size W _ by ((repeat first | refine bD ?_ | with_reducible refine bN ?_ | refine bA ?_ | refine bS ?_);first | exact bR | assumption | exact bN bR | exact bN (bN bR))) (hbd.mono (Below.size (show Below W.heap.size W _ by ((repeat first | refine bD ?_ | with_reducible refine bN ?_ | refine bA ?_ | refine bS ?_);first | exact bR | assumption | exact bN bR | exact bN (bN bR)))));clear hbd)
      | (go_at_call 57;refine (HT.out _ (hbel.trans ((show Below W.heap.size W _ by ((repeat first | refine bD ?_ | with_reducible refine bN ?_ | refine bA ?_ | refine bS ?_);first | exact bR | assumption | exact bN bR | exact bN (bN bR))).mono hbel.size))).mono ?_;rintro e w' ⟨rfl,rfl⟩)))
  cases rb with
  | true =>
    have hk2:=Hk.out
    go_wp2_with fail
    go_ret
    exact ⟨rfl,hbel.trans (hBd.mono hbel.size)⟩
  | false =>
    have hk2:=Hk.out
    go_wp2_with fail
    go_ret
    exact ⟨rfl,hbel.trans (hBd.mono hbel.size)⟩
set_option maxRecDepth 100000 in
theorem wrefusal_no {w:World} {b:Nat} (A A':Option Addr) (n c n' c':Nat) (hn:n≤maxLen) (h:¬ ((1≤n∧n≤16)∧n = n')) :
    Calls Tryz.prog 107 #[.pointer (some ⟨b,0,none⟩),boxV A n c A' n' c'] w fun e w' => e = .returned (.int .i64 2)∧Below w.heap.size w w':=by
  have HR:=Lib.hid fun w1:World => bright_n A A' n c n' c' w1 hn h
  have hbel:=below_alloc w (.cells #[.slice A n c,.slice A' n' c'] 25)
  have hx:=boxAt_new w A n c A' n' c'
  have hlt:w.heap.size < (w.alloc (.cells #[.slice A n c,.slice A' n' c'] 25)).heap.size:=by simp
  clear h hn
  go_enter Tryz.func107,Tryz.ntmps107
  go_wp2_with fail
  generalize w.alloc (.cells #[.slice A n c,.slice A' n' c'] 25) = W at *
  have m0:∀ w2,Below W.heap.size W w2→w2.cell? ⟨w.heap.size,0,none⟩ = some (.slice A n c):=fun w2 hb => (hx.below hb hlt).1
  have m1:∀ w2,Below W.heap.size W w2→w2.cell? ⟨w.heap.size,1,none⟩ = some (.slice A' n' c'):=fun w2 hb => (hx.below hb hlt).2
  have hbb:=Below.refl W.heap.size W
  refine wp_region_held_drew (S:=fun w' => Below W.heap.size W w') (by kernel_rfl) hbb.drew (fun hHeld => ?_)
  apply wpAnyH_take (i:=0)
  case hi => simp only [List.getElem?_toArray,List.getElem?_cons_zero];rfl
  case hs => kernel_rfl
  case hf => kernel_rfl
  case hr => kernel_rfl
  case hQ => exact fun _ _ _ h => h
  case hS => assumption
  case hy =>
    refine Or.inl ⟨by rfl,?_⟩
    intro w hSw
    try dsimp only at hSw
    have m0:=m0 w hSw
    have m1:=m1 w hSw
    go_simp
    try with_reducible rfl
  simp only [Act.put,List.setIfInBounds_toArray,List.set_cons_zero,List.set_cons_succ]
  refine wpAnyH_ready (rs:=[1]) (by kernel_rfl) (by simp) ?_
  apply AllReadyH.cons
  case ho => simp only [List.getElem?_toArray,List.getElem?_cons_succ,List.getElem?_cons_zero];rfl
  case hs => exact AllReadyH.nil
  intro K hK
  go_simp
  refine (HR.out _).mono ?_
  rintro e wd ⟨rfl,hbd⟩
  have hBd:=Below.trans (show Below W.heap.size W _ by ((repeat first | refine bD ?_ | with_reducible refine bN ?_ | refine bA ?_ | refine bS ?_);first | exact bR | assumption | exact bN bR | exact bN (bN bR))) (hbd.mono (Below.size (show Below W.heap.size W _ by ((repeat first | refine bD ?_ | with_reducible refine bN ?_ | refine bA ?_ | refine bS ?_);first | exact bR | assumption | exact bN bR | exact bN (bN bR)))))
  clear hbd
  go_wp2_with fail
  refine hK.out _ _ hBd (fun hHeld => ?_)
  clear hK K
  apply wpAnyH_take (i:=2)
  case hi => simp only [List.getElem?_toArray,List.getElem?_cons_succ,List.getElem?_cons_zero];rfl
  case hs => kernel_rfl
  case hf => kernel_rfl
  case hr => kernel_rfl
  case hQ => exact fun _ _ _ h => h
  case hS => assumption
  case hy =>
    refine Or.inl ⟨by rfl,?_⟩
    intro w hSw
    try dsimp only at hSw
    have m0:=m0 w hSw
    have m1:=m1 w hSw
    go_simp
    try with_reducible rfl
  simp only [Act.put,List.setIfInBounds_toArray,List.set_cons_zero,List.set_cons_succ]
  apply wpAnyH_take (i:=3)
  case hi => simp only [List.getElem?_toArray,List.getElem?_cons_succ,List.getElem?_cons_zero];rfl
  case hs => kernel_rfl
  case hf => kernel_rfl
  case hr => kernel_rfl
  case hQ => exact fun _ _ _ h => h
  case hS => assumption
  case hy =>
    refine Or.inl ⟨by rfl,?_⟩
    intro w hSw
    try dsimp only at hSw
    have m0:=m0 w hSw
    have m1:=m1 w hSw
    go_simp
    try with_reducible rfl
  simp only [Act.put,List.setIfInBounds_toArray,List.set_cons_zero,List.set_cons_succ]
  apply wpAnyH_take (i:=4)
  case hi => simp only [List.getElem?_toArray,List.getElem?_cons_succ,List.getElem?_cons_zero];rfl
  case hs => kernel_rfl
  case hf => kernel_rfl
  case hr => kernel_rfl
  case hQ => exact fun _ _ _ h => h
  case hS => assumption
  case hy => exact Or.inr ⟨by rfl,rfl⟩
  simp only [Act.put,List.setIfInBounds_toArray,List.set_cons_zero,List.set_cons_succ]
  apply wpAnyH_take (i:=5)
  case hi => simp only [List.getElem?_toArray,List.getElem?_cons_succ,List.getElem?_cons_zero];rfl
  case hs => kernel_rfl
  case hf => kernel_rfl
  case hr => kernel_rfl
  case hQ => exact fun _ _ _ h => h
  case hS => assumption
  case hy => exact Or.inr ⟨by rfl,rfl⟩
  simp only [Act.put,List.setIfInBounds_toArray,List.set_cons_zero,List.set_cons_succ]
  apply wpAnyH_take (i:=6)
  case hi => simp only [List.getElem?_toArray,List.getElem?_cons_succ,List.getElem?_cons_zero];rfl
  case hs => kernel_rfl
  case hf => kernel_rfl
  case hr => kernel_rfl
  case hQ => exact fun _ _ _ h => h
  case hS => assumption
  case hy => exact Or.inr ⟨by rfl,rfl⟩
  simp only [Act.put,List.setIfInBounds_toArray,List.set_cons_zero,List.set_cons_succ]
  apply wpAnyH_take (i:=7)
  case hi => simp only [List.getElem?_toArray,List.getElem?_cons_succ,List.getElem?_cons_zero];rfl
  case hs => kernel_rfl
  case hf => kernel_rfl
  case hr => kernel_rfl
  case hQ => exact fun _ _ _ h => h
  case hS => assumption
  case hy => exact Or.inr ⟨by rfl,rfl⟩
  simp only [Act.put,List.setIfInBounds_toArray,List.set_cons_zero,List.set_cons_succ]
  apply wpAnyH_take (i:=8)
  case hi => simp only [List.getElem?_toArray,List.getElem?_cons_succ,List.getElem?_cons_zero];rfl
  case hs => kernel_rfl
  case hf => kernel_rfl
  case hr => kernel_rfl
  case hQ => exact fun _ _ _ h => h
  case hS => assumption
  case hy => exact Or.inr ⟨by rfl,rfl⟩
  simp only [Act.put,List.setIfInBounds_toArray,List.set_cons_zero,List.set_cons_succ]
  apply wpAnyH_take (i:=9)
  case hi => simp only [List.getElem?_toArray,List.getElem?_cons_succ,List.getElem?_cons_zero];rfl
  case hs => kernel_rfl
  case hf => kernel_rfl
  case hr => kernel_rfl
  case hQ => exact fun _ _ _ h => h
  case hS => assumption
  case hy => exact Or.inr ⟨by rfl,rfl⟩
  simp only [Act.put,List.setIfInBounds_toArray,List.set_cons_zero,List.set_cons_succ]
  apply wpAnyH_take (i:=10)
  case hi => simp only [List.getElem?_toArray,List.getElem?_cons_succ,List.getElem?_cons_zero];rfl
  case hs => kernel_rfl
  case hf => kernel_rfl
  case hr => kernel_rfl
  case hQ => exact fun _ _ _ h => h
  case hS => assumption
  case hy =>
    refine Or.inl ⟨by rfl,?_⟩
    intro w hSw
    try dsimp only at hSw
    have m0:=m0 w hSw
    have m1:=m1 w hSw
    go_simp
    try with_reducible rfl
  simp only [Act.put,List.setIfInBounds_toArray,List.set_cons_zero,List.set_cons_succ]
  refine wpAnyH_done (by kernel_rfl) ?_ _
  clear m0 m1
  go_wp2_with fail
  go_ret
  exact ⟨rfl,hbel.trans (hBd.mono hbel.size)⟩
def Refd (w:World) (tp:Option Addr) (A:Option Addr) (n c:Nat) (A':Option Addr) (n' c':Nat) (co:Int):Prop :=
  ∀ w1:World,Below w.heap.size w w1→Calls Tryz.prog 107 #[.pointer tp,boxV A n c A' n' c'] w1 fun e w' => e = .returned (.int .i64 co)∧Below w1.heap.size w1 w'
theorem Refd.on {w w':World} {tp:Option Addr} {A:Option Addr} {n c:Nat} {A':Option Addr} {n' c':Nat} {co:Int} (h:Refd w tp A n c A' n' c' co) (hb:Below w.heap.size w w'):Refd w' tp A n c A' n' c' co :=
  fun w1 hb1 => h w1 (hb.trans (hb1.mono hb.size))
theorem refd_right (w:World) (b:Nat) (A:Option Addr) (n c:Nat) (A':Option Addr) (n' c':Nat) (hn:n≤maxLen) (h:¬ ((1≤n∧n≤16)∧n = n')):Refd w (some ⟨b,0,none⟩) A n c A' n' c' 2:=fun _ _ => wrefusal_no A A' n c n' c' hn h
theorem refd_k {w:World} {b k:Nat} {r:Option Addr} (h:TreC w b k r) (hb:b < w.heap.size) (A:Option Addr) (n c:Nat) (A':Option Addr) (n' c':Nat) (h1:1≤n) (h16:n≤16) (hn:n = n') (hk:n≠k):Refd w (some ⟨b,0,none⟩) A n c A' n' c' 2:=fun w1 hw => by
  have:=wrefusal_yes (w:=w1) (h.below hw hb) (Nat.lt_of_lt_of_le hb hw.size) A A' n c n' c' h1 h16 hn true (by rw [bne_iff_ne];omega)
  simpa using this
set_option maxRecDepth 100000 in
theorem wsome_no {w:World} {tp:Option Addr} {A:Option Addr} {n c:Nat} {A':Option Addr} {n' c':Nat} {co:Int} (h:Refd w tp A n c A' n' c' co) (hco:co≠0) (most:Int) :
    Calls Tryz.prog 104 #[.pointer tp,boxV A n c A' n' c',.int .i64 most] w fun e w' => e = .returned (.tuple #[.slice none 0 0,.bool false,.int .i64 co])∧Below w.heap.size w w':=by
  have hne:(co != 0) = true:=by rw [bne_iff_ne];exact hco
  have HR:=Lib.hid h
  clear h hco
  go_enter Tryz.func104,Tryz.ntmps104
  go_wp2_with (go_at_call 107;refine (HR.out _ (by ((repeat first | refine bD ?_ | with_reducible refine bN ?_ | refine bA ?_ | refine bS ?_);first | exact bR | assumption | exact bN bR | exact bN (bN bR)))).mono ?_;rintro e w1 ⟨rfl,hb1⟩;have hB1:=Below.trans (show Below w.heap.size w _ by ((repeat first | refine bD ?_ | with_reducible refine bN ?_ | refine bA ?_ | refine bS ?_);first | exact bR | assumption | exact bN bR | exact bN (bN bR))) (hb1.mono (Below.size (show Below w.heap.size w _ by ((repeat first | refine bD ?_ | with_reducible refine bN ?_ | refine bA ?_ | refine bS ?_);first | exact bR | assumption | exact bN bR | exact bN (bN bR))))))
  go_ret3
  exact ⟨rfl,hB1⟩
set_option maxRecDepth 100000 in
theorem wrest_no {w:World} {tp:Option Addr} {A:Option Addr} {n c:Nat} {A':Option Addr} {n' c':Nat} {co:Int} (h:Refd w tp A n c A' n' c' co) (hco:co≠0) (fi fp:Value) :
    Calls Tryz.prog 50 #[.pointer tp,gdV A n c A' n' c' fi fp] w fun e w' => e = .returned (.tuple #[.pointer none,.int .i64 co])∧Below w.heap.size w w':=by
  have hne:(co != 0) = true:=by rw [bne_iff_ne];exact hco
  have HR:=Lib.hid h
  clear h hco
  go_enter Tryz.func50,Tryz.ntmps50
  go_wp2_with (go_at_call 107;refine (HR.out _ (by ((repeat first | refine bD ?_ | with_reducible refine bN ?_ | refine bA ?_ | refine bS ?_);first | exact bR | assumption | exact bN bR | exact bN (bN bR)))).mono ?_;rintro e w1 ⟨rfl,hb1⟩;have hB1:=Below.trans (show Below w.heap.size w _ by ((repeat first | refine bD ?_ | with_reducible refine bN ?_ | refine bA ?_ | refine bS ?_);first | exact bR | assumption | exact bN bR | exact bN (bN bR))) (hb1.mono (Below.size (show Below w.heap.size w _ by ((repeat first | refine bD ?_ | with_reducible refine bN ?_ | refine bA ?_ | refine bS ?_);first | exact bR | assumption | exact bN bR | exact bN (bN bR))))))
  go_ret2
  exact ⟨rfl,hB1⟩
set_option maxRecDepth 100000 in
theorem wclear_no {w:World} {tp:Option Addr} {A:Option Addr} {n c:Nat} {A':Option Addr} {n' c':Nat} {co:Int} (h:Refd w tp A n c A' n' c' co) (hco:co≠0) :
    Calls Tryz.prog 17 #[.pointer tp,boxV A n c A' n' c'] w fun e w' => e = .returned (.tuple #[.pointer none,.int .i64 co])∧Below w.heap.size w w':=by
  have hco2:=Lib.hid hco
  have HR:=Lib.hid h
  clear h hco
  go_enter Tryz.func17,Tryz.ntmps17
  go_wp2_with (go_at_call 50;refine (wrest_no (HR.out.on (by ((repeat first | refine bD ?_ | with_reducible refine bN ?_ | refine bA ?_ | refine bS ?_);first | exact bR | assumption | exact bN bR | exact bN (bN bR)))) hco2.out _ _).mono ?_;rintro e w1 ⟨rfl,hb1⟩;have hB1:=Below.trans (show Below w.heap.size w _ by ((repeat first | refine bD ?_ | with_reducible refine bN ?_ | refine bA ?_ | refine bS ?_);first | exact bR | assumption | exact bN bR | exact bN (bN bR))) (hb1.mono (Below.size (show Below w.heap.size w _ by ((repeat first | refine bD ?_ | with_reducible refine bN ?_ | refine bA ?_ | refine bS ?_);first | exact bR | assumption | exact bN bR | exact bN (bN bR))))))
  go_ret2
  exact ⟨rfl,hB1⟩
set_option maxRecDepth 100000 in
theorem wkeep_no {w:World} {tp:Option Addr} {A:Option Addr} {n c:Nat} {A':Option Addr} {n' c':Nat} {co:Int} (h:Refd w tp A n c A' n' c' co) (hco:co≠0) :
    Calls Tryz.prog 18 #[.pointer tp,boxV A n c A' n' c'] w fun e w' => e = .returned (.tuple #[.pointer none,.int .i64 co])∧Below w.heap.size w w':=by
  have hco2:=Lib.hid hco
  have HR:=Lib.hid h
  clear h hco
  go_enter Tryz.func18,Tryz.ntmps18
  go_wp2_with (go_at_call 50;refine (wrest_no (HR.out.on (by ((repeat first | refine bD ?_ | with_reducible refine bN ?_ | refine bA ?_ | refine bS ?_);first | exact bR | assumption | exact bN bR | exact bN (bN bR)))) hco2.out _ _).mono ?_;rintro e w1 ⟨rfl,hb1⟩;have hB1:=Below.trans (show Below w.heap.size w _ by ((repeat first | refine bD ?_ | with_reducible refine bN ?_ | refine bA ?_ | refine bS ?_);first | exact bR | assumption | exact bN bR | exact bN (bN bR))) (hb1.mono (Below.size (show Below w.heap.size w _ by ((repeat first | refine bD ?_ | with_reducible refine bN ?_ | refine bA ?_ | refine bS ?_);first | exact bR | assumption | exact bN bR | exact bN (bN bR))))))
  go_ret2
  exact ⟨rfl,hB1⟩
theorem weach2_c (x:Option Addr) (v:Value) (w:World):Calls Tryz.prog 212 #[.pointer x,v] w fun e w' => e = .returned (.pointer x)∧w = w':=by
  go_enter Tryz.func212,Tryz.ntmps212
  go_wp2_with fail
  go_ret
  exact ⟨rfl,rfl⟩
theorem weach1_one {w:World} {h fid:Nat} {g:Nat} (x:Option Addr) (on:Bool) {R:World→Prop} (hent:∀ args w,(callFunc fid args).run Tryz.prog w = .ok (.enter fid args) w) (hcell:w.cell? ⟨h,0,none⟩ = some (.func (.func fid) #[] #[.pointer (some ⟨g,0,none⟩)]))
    (HC:Calls Tryz.prog fid #[.pointer x,.pointer (some ⟨g,0,none⟩)] w fun e w' => e = .returned (.bool on)∧R w') :
    Calls Tryz.prog 211 #[.pointer x,.pointer (some ⟨h,0,none⟩)] w fun e w' => e = .returned (.tuple #[.pointer x,.bool on])∧R w':=by
  have HH:=Lib.hid HC
  clear HC
  go_enter Tryz.func211,Tryz.ntmps211
  go_wp2_with fail
  refine HH.out.mono ?_
  rintro e w2 ⟨rfl,hr⟩
  go_wp2_with fail
  go_ret2
  exact ⟨rfl,hr⟩
theorem weach1_three {w:World} {h fid:Nat} {g1 g2 g3:Nat} (x:Option Addr) (on:Bool) {R:World→Prop} (hent:∀ args w,(callFunc fid args).run Tryz.prog w = .ok (.enter fid args) w) (hcell:w.cell? ⟨h,0,none⟩ = some (.func (.func fid) #[] #[.pointer (some ⟨g1,0,none⟩),.pointer (some ⟨g2,0,none⟩),.pointer (some ⟨g3,0,none⟩)]))
    (HC:Calls Tryz.prog fid #[.pointer x,.pointer (some ⟨g1,0,none⟩),.pointer (some ⟨g2,0,none⟩),.pointer (some ⟨g3,0,none⟩)] w fun e w' => e = .returned (.bool on)∧R w') :
    Calls Tryz.prog 211 #[.pointer x,.pointer (some ⟨h,0,none⟩)] w fun e w' => e = .returned (.tuple #[.pointer x,.bool on])∧R w':=by
  have HH:=Lib.hid HC
  clear HC
  go_enter Tryz.func211,Tryz.ntmps211
  go_wp2_with fail
  refine HH.out.mono ?_
  rintro e w2 ⟨rfl,hr⟩
  go_wp2_with fail
  go_ret2
  exact ⟨rfl,hr⟩
/-! ### a scope with several labels -/
def jumpsTo (J:Nat→Act→World→Prop) (Q:Exit→Act→World→Prop):Exit→Act→World→Prop:=fun e a w => match e with
  | .goto l => J l a w
  | e => Q e a w
theorem wp_scope_labels {P:Program} {c:Code} {Q:Exit→Act→World→Prop} {a:Act} {w:World} (rest:Nat→Code) (J:Nat→Nat→Act→World→Prop) (hf:∀ l m a w,J l m a w→findLabel c l = some (rest l))
    (first:c.wp P (jumpsTo (fun l a' w' => ∃ m,J l m a' w') Q) a w)
    (pass:∀ l m a w,J l m a w→(rest l).wp P (jumpsTo (fun l' a' w' => ∃ m',m' < m∧J l' m' a' w') Q) a w):(Code.scope c).wp P Q a w:=by
  intro b k cs
  have key:∀ m l a w,J l m a w→∃ e a' w',Q e a' w'∧Arrives P (lone (b.at a (.code (rest l) :: .inScope c :: k)) cs w) b k cs e a' w':=by
    intro m
    induction m using Nat.strongRecOn with
    | _ m ih =>
      intro l a w hJ
      obtain ⟨e,a₁,w₁,hq,harr⟩:=pass l m a w hJ b (.inScope c :: k) cs
      cases e with
      | normal => exact ⟨.normal,a₁,w₁,hq,Steps.trans harr (.one step_inScope)⟩
      | exit id => exact ⟨.exit id,a₁,w₁,hq,fun k' hk => harr k' (by simp [exitTo,hk])⟩
      | goto l' =>
        obtain ⟨m',hlt,hJ'⟩:=hq
        have hg:gotoIn l' (.inScope c :: k) = some (.code (rest l') :: .inScope c :: k):=by simp [gotoIn,hf l' m' _ _ hJ']
        obtain ⟨e₂,a₂,w₂,hq₂,harr₂⟩:=ih m' hlt l' a₁ w₁ hJ'
        exact ⟨e₂,a₂,w₂,hq₂,.of_steps (harr _ hg) harr₂⟩
      | ret => exact ⟨_,a₁,w₁,hq,harr⟩
      | panic ch => exact ⟨_,a₁,w₁,hq,harr⟩
      | outgrown => exact ⟨_,a₁,w₁,hq,harr⟩
  obtain ⟨e,a₁,w₁,hq,harr⟩:=first b (.inScope c :: k) cs
  cases e with
  | normal => exact ⟨.normal,a₁,w₁,hq,.head step_scope (Steps.trans harr (.one step_inScope))⟩
  | exit id => exact ⟨.exit id,a₁,w₁,hq,fun k' hk => .head step_scope (harr k' (by simp [exitTo,hk]))⟩
  | goto l =>
    obtain ⟨m,hJ'⟩:=hq
    have hg:gotoIn l (.inScope c :: k) = some (.code (rest l) :: .inScope c :: k):=by simp [gotoIn,hf l m _ _ hJ']
    obtain ⟨e₂,a₂,w₂,hq₂,harr₂⟩:=key m l a₁ w₁ hJ'
    exact ⟨e₂,a₂,w₂,hq₂,.of_steps (.head step_scope (harr _ hg)) harr₂⟩
  | ret => exact ⟨_,a₁,w₁,hq,.of_steps (.one step_scope) harr⟩
  | panic ch => exact ⟨_,a₁,w₁,hq,.of_steps (.one step_scope) harr⟩
  | outgrown => exact ⟨_,a₁,w₁,hq,.of_steps (.one step_scope) harr⟩
theorem jumps_le {P:Program} {c:Code} {Q:Exit→Act→World→Prop} {a:Act} {w:World} {J:Nat→Nat→Act→World→Prop} {m n:Nat} (h:c.wp P (jumpsTo (fun l' a' w' => ∃ m',m' < m∧J l' m' a' w') Q) a w) (hm:m≤n) :
    c.wp P (jumpsTo (fun l' a' w' => ∃ m',m' < n∧J l' m' a' w') Q) a w:=Code.wp_mono (by
  intro e a' w' h'
  cases e <;> first | exact h' | (obtain ⟨m',h1,h2⟩:=h';exact ⟨m',Nat.lt_of_lt_of_le h1 hm,h2⟩)) h
theorem jumps_any {P:Program} {c:Code} {Q:Exit→Act→World→Prop} {a:Act} {w:World} {J:Nat→Nat→Act→World→Prop} {m:Nat} (h:c.wp P (jumpsTo (fun l' a' w' => ∃ m',m' < m∧J l' m' a' w') Q) a w) :
    c.wp P (jumpsTo (fun l' a' w' => ∃ m',J l' m' a' w') Q) a w:=Code.wp_mono (by
  intro e a' w' h'
  cases e <;> first | exact h' | (obtain ⟨m',h1,h2⟩:=h';exact ⟨m',h2⟩)) h
/-! ### step.next where nothing is left -/
theorem stepTo_self {cs:Array Value} {off:Nat} {a:Int} {p:Option Addr} (c4:cs[off + 4]? = some (.int .i64 a)) (c5:cs[off + 5]? = some (.pointer p)):stepTo cs off a p = cs:=by
  have h4:=Array.getElem?_eq_some_iff.1 c4
  have h5:=Array.getElem?_eq_some_iff.1 c5
  unfold stepTo
  apply Array.ext_getElem?
  intro i
  simp only [Array.getElem?_setIfInBounds,Array.size_setIfInBounds]
  split
  · subst_vars;rw [if_pos h5.1,c5]
  · split
    · subst_vars;rw [if_pos h4.1,c4]
    · rfl
set_option maxRecDepth 1000000 in
set_option maxHeartbeats 2000000 in
theorem stepNext_zero {w:World} {q off:Nat} {cs:Array Value} {ty:TypeId} (hq:w.heap[q]? = some (.cells cs ty (0,0))) {a:Int} (c1:cs[off + 1]? = some (.int .i64 0)) (c2:cs[off + 2]? = some (.int .i64 0)) (c3:cs[off + 3]? = some (.int .i64 0)) (c4:cs[off + 4]? = some (.int .i64 a)) :
    Calls Tryz.prog 163 #[.pointer (some ⟨q,off,none⟩)] w fun e w' => e = .returned (.bool false)∧Below w.heap.size w w':=by
  have hqs:q < w.heap.size:=(Array.getElem?_eq_some_iff.1 hq).1
  have hc:∀ (w2:World) (j:Nat) (v:Value),Below w.heap.size w w2→cs[j]? = some v→w2.cell? ⟨q,j,none⟩ = some v:=fun w2 j v hb hj => by rw [cell_of_row w2 _ _ _ _ (0,0) ((hb.block q hqs).trans hq)];exact hj
  have m0:∀ w2,Below w.heap.size w w2→w2.cell? ⟨q,off + 1,none⟩ = some (.int .i64 0):=fun w2 hb => hc w2 _ _ hb c1
  have m1:∀ w2,Below w.heap.size w w2→w2.cell? ⟨q,off + 1 + 1,none⟩ = some (.int .i64 0):=fun w2 hb => hc w2 _ _ hb c2
  have m2:∀ w2,Below w.heap.size w w2→w2.cell? ⟨q,off + 1 + 2,none⟩ = some (.int .i64 0):=fun w2 hb => hc w2 _ _ hb c3
  have m3:∀ w2,Below w.heap.size w w2→w2.cell? ⟨q,off + 4,none⟩ = some (.int .i64 a):=fun w2 hb => hc w2 _ _ hb c4
  have HNx:=Lib.hid fun w2:World => mnext_no 0 0 0 a w2 (by unfold MRight;omega) (by unfold I64;omega) (by unfold I64;omega) (by unfold I64;omega)
  have hbb:=Below.refl w.heap.size w
  clear hc hq c1 c2 c3 c4 hqs
  go_enter Tryz.func163,Tryz.ntmps163
  go_wp2_with fail
  refine wp_scope_straight ?_
  refine wp_seq (wp_label ?_)
  go_wp2_with fail
  go_region_held3 (fun w2 => Below w.heap.size w w2) (((repeat first | refine bD ?_ | with_reducible refine bN ?_ | refine bA ?_ | refine bS ?_);first | exact bR | assumption | exact bN bR | exact bN (bN bR)))
    ((go_at_call 219;refine (HNx.out _).mono ?_;rintro e wc ⟨rfl,hbc⟩;have hBc:=Below.trans (show Below w.heap.size w _ by ((repeat first | refine bD ?_ | with_reducible refine bN ?_ | refine bA ?_ | refine bS ?_);first | exact bR | assumption | exact bN bR | exact bN (bN bR))) (hbc.mono (Below.size (show Below w.heap.size w _ by ((repeat first | refine bD ?_ | with_reducible refine bN ?_ | refine bA ?_ | refine bS ?_);first | exact bR | assumption | exact bN bR | exact bN (bN bR)))));clear hbc))
  clear m0 m1 m2 m3
  go_wp2_with fail
  simp only [Exit.noGoto]
  go_ret
  exact ⟨rfl,hBc⟩
/-! ### whoever is told -/
structure VisitW (fid h B k:Nat) (W:List T) (go:List T→Bool) (Inv:List T→World→(Nat→Prop)→Prop):Prop where
  ent:∀ args w,(callFunc fid args).run Tryz.prog w = .ok (.enter fid args) w
  frame:∀ us w w' F,Inv us w F→w.heap.size≤w'.heap.size→(∀ b,F b→w'.heap[b]? = w.heap[b]?)→Inv us w' F
  inb:∀ us w F,Inv us w F→∀ b,F b→b < w.heap.size∧B≤b
  call:∀ us w F t r on,Inv us w F→Node w B k t→B≤w.heap.size→(∀ w',Below B w w'→Tz w')→W = us ++ t :: r→go us = true→go (us ++ [t]) = on→Calls Tryz.prog fid #[.pointer (some ⟨t.blk,0,none⟩),.pointer (some ⟨h,0,none⟩)] w fun e w' =>
    e = .returned (.tuple #[.pointer (some ⟨t.blk,0,none⟩),.bool on])∧∃ F',Inv (us ++ [t]) w' F'∧(∀ b,F' b→F b∨w.heap.size≤b)∧Foot F w w'
def lvO:Option T→Nat
  | some t => t.lv
  | none => 0
def Lev:List WFr→Prop
  | [] => True
  | x :: S => lvO x.o + (S.length + 1)≤65∧Lev S
structure ThrW (h B k:Nat) (W:List T) (go:List T→Bool) (Inv:List T→World→(Nat→Prop)→Prop) (lo hi:List Nat) (gc:Array Value) (w:World) (F:Nat→Prop) (L:List T) (S:List WFr) (D:Option Addr) (d:Nat) (w':World):Prop where
  us:∃ us F',W = us ++ (L ++ restW lo hi S)∧go us = true∧metTo go [] W = metTo go us (L ++ restW lo hi S)∧Inv us w' F'∧(∀ b,F' b→F b∨w.heap.size≤b)∧¬ F' w.heap.size∧(∀ q,D.map (·.block) = some q→¬ F' q)∧(∀ x∈S,∀ q,x.own = some q→¬ F' q)
  fr:∀ x∈S,NodeO w B k x.o∧-1≤x.a∧x.a≤65536
  foot:Foot F w w'
  box:w'.heap[w.heap.size]? = some (.cells gc 85 (0,0))
  stk:StkW lo hi w' (w.heap.size + 1) (.slice D S.length d) S
  rows:∀ x∈S,RowK w' (w.heap.size + 1) x
  dis:S.Pairwise fun x y => ∀ q,x.own = some q→y.own≠some q
  sep:∀ x∈S,∀ q,x.own = some q→D.map (·.block)≠some q
  lev:Lev S
section
variable {fid h B k:Nat} {W:List T} {go:List T→Bool} {Inv:List T→World→(Nat→Prop)→Prop} {lo hi:List Nat} {gc:Array Value} {w:World} {F:Nat→Prop} {L:List T} {S:List WFr} {D:Option Addr} {d:Nat} {w1 w2:World}
theorem ThrW.lt (s:ThrW h B k W go Inv lo hi gc w F L S D d w1):w.heap.size < w1.heap.size:=(Array.getElem?_eq_some_iff.1 s.box).1
theorem ThrW.below (hv:VisitW fid h B k W go Inv) (s:ThrW h B k W go Inv lo hi gc w F L S D d w1) (hb:Below w1.heap.size w1 w2):ThrW h B k W go Inv lo hi gc w F L S D d w2:=by
  obtain ⟨us,F',e1,e2,e3,e4,e5,e6,e7,e8⟩:=s.us
  exact ⟨⟨us,F',e1,e2,e3,hv.frame _ _ _ _ e4 hb.size (fun b hF => hb.block b (hv.inb _ _ _ e4 b hF).1),e5,e6,e7,e8⟩,s.fr,s.foot.trans (Foot.of_below (F:=F) hb) (fun b hb => .inl hb),(hb.block _ s.lt).trans s.box,
    OwnL.below s.stk hb (Nat.le_refl _),fun x hx => (s.rows x hx).block fun q hq => hb.block q ((s.rows x hx).lt q hq).2,s.dis,s.sep,s.lev⟩
theorem ThrW.told {t:T} (hv:VisitW fid h B k W go Inv) (s:ThrW h B k W go Inv lo hi gc w F [t] S D d w1) (hn:Node w1 B k t) (hB:B≤w1.heap.size) (hT:∀ w',Below B w1 w'→Tz w') :
    ∃ on,Calls Tryz.prog fid #[.pointer (some ⟨t.blk,0,none⟩),.pointer (some ⟨h,0,none⟩)] w1 fun e w2 => e = .returned (.tuple #[.pointer (some ⟨t.blk,0,none⟩),.bool on]) ∧
      (on = true→ThrW h B k W go Inv lo hi gc w F [] S D d w2)∧(on = false→∃ F',Inv (metTo go [] W) w2 F'∧(∀ b,F' b→F b∨w.heap.size≤b)∧Foot F w w2):=by
  obtain ⟨us,F',e1,e2,e3,e4,e5,e6,e7,e8⟩:=s.us
  refine ⟨go (us ++ [t]),(hv.call us w1 F' t _ _ e4 hn hB hT e1 e2 rfl).mono ?_⟩
  rintro e w2 ⟨rfl,F2,i2,hF2,hfo⟩
  have hlt:=s.lt
  have hsz:=hfo.size
  have hF2':∀ b,F2 b→F b∨w.heap.size≤b:=fun b hb => by
    rcases hF2 b hb with c | c
    · exact e5 b c
    · exact .inr (by omega)
  have hft:Foot F w w2:=s.foot.trans hfo e5
  refine ⟨rfl,fun hon => ?_,fun hon => ⟨F2,?_,hF2',hft⟩⟩
  · have hold:∀ q,q < w1.heap.size→¬ F' q→¬ F2 q:=fun q hq hn hh => by
      rcases hF2 q hh with c | c
      · exact hn c
      · omega
    have hstk:=s.stk.lt
    refine ⟨⟨us ++ [t],F2,by rw [e1];simp,hon,by rw [e3];exact metTo_on hon,i2,hF2',hold _ hlt e6,fun q hq => hold q (hstk q (by rw [own_block];exact hq)).2 (e7 q hq),fun x hx q hq => hold q ((s.rows x hx).lt q hq).2 (e8 x hx q hq)⟩,s.fr,hft,(hfo.block _ hlt e6).trans s.box,
      s.stk.block fun q hq => hfo.block q (hstk q hq).2 (e7 q (by rw [own_block] at hq;exact hq)),fun x hx => (s.rows x hx).block fun q hq => hfo.block q ((s.rows x hx).lt q hq).2 (e8 x hx q hq),s.dis,s.sep,s.lev⟩
  · rw [e3,List.cons_append,metTo_off hon]
    exact i2
theorem ThrW.push {o:Option T} (hv:VisitW fid h B k W go Inv) (s:ThrW h B k W go Inv lo hi gc w F (wholesO lo hi o) S D d w1) (hn:NodeO w B k o) (hw:whO lo hi o = false) (hl:lvO o + (S.length + 1)≤65) {ob:Obj} {D2:Option Addr} {d2:Nat}
    (hown:OwnL 226 7 (FrQ lo hi) w2 (w.heap.size + 1) (.slice D2 (S.length + 1) d2) (S.reverse ++ [⟨o,-1,none,none,0,0⟩])) (hgr:(w1.alloc ob).grownBy w2 (D.map (·.block)))
    (hat:D2.map (·.block) = D.map (·.block)∨D2.map (·.block) = some (w1.heap.size + 1)):ThrW h B k W go Inv lo hi gc w F [] (⟨o,-1,none,none,0,0⟩ :: S) D2 d2 w2:=by
  obtain ⟨us,F',e1,e2,e3,e4,e5,e6,e7,e8⟩:=s.us
  have hlt:=s.lt
  have hblk:∀ b,b < w1.heap.size→D.map (·.block)≠some b→w2.heap[b]? = w1.heap[b]?:=fun b hb hne => by
    rw [hgr.block b (by simp;omega) (fun e => hne e.symm),Below.heap_alloc _ _ _ (by omega)]
  have hsz:w1.heap.size≤w2.heap.size:=Nat.le_trans (by simp) hgr.size
  have hDlt:∀ q,D.map (·.block) = some q→w.heap.size + 1≤q∧q < w1.heap.size:=fun q hq => s.stk.lt q (by rw [own_block];exact hq)
  have hinb:=hv.inb _ _ _ e4
  have hft:Foot F w w2:=by
    refine s.foot.trans (F1:=fun b => D.map (·.block) = some b) ⟨?_,?_,?_,hsz,fun b hb hne => hblk b hb hne⟩ (fun b hb => .inr (by have:=hDlt b hb;omega))
    · exact hgr.os
    · exact hgr.tape
    · exact hgr.output
  have hp:=pend_push (p:=none) (A:=none) (m:=0) (c:=0) hw
  refine ⟨⟨us,F',?_,e2,?_,hv.frame _ _ _ _ e4 hsz (fun b hF => hblk b (hinb b hF).1 (fun e => e7 b e hF)),e5,e6,fun q hq hF => ?_,fun x hx q hq => ?_⟩,fun x hx => ?_,hft,?_,?_,fun x hx => ?_,?_,fun x hx q hq => ?_,hl,s.lev⟩
  · rw [e1,restW_cons,hp,List.nil_append]
  · rw [e3,restW_cons,hp,List.nil_append]
  · rcases hat with c | c
    · exact e7 q (by rw [← c];exact hq) hF
    · rw [c] at hq
      cases hq
      have:=(hinb _ hF).1
      omega
  · rcases List.mem_cons.1 hx with rfl | hx
    · cases hq
    · exact e8 x hx q hq
  · rcases List.mem_cons.1 hx with rfl | hx
    · exact ⟨hn,by show (-1:Int)≤-1;omega,by show (-1:Int)≤65536;omega⟩
    · exact s.fr x hx
  · rw [hblk _ hlt (fun e => by have:=hDlt _ e;omega)]
    exact s.box
  · show OwnL _ _ _ _ _ _ _
    rw [List.reverse_cons]
    exact hown
  · rcases List.mem_cons.1 hx with rfl | hx
    · exact ⟨[],rfl,ownL_none _ _ _⟩
    · exact (s.rows x hx).block fun q hq => hblk q ((s.rows x hx).lt q hq).2 (s.sep x hx q hq)
  · refine List.pairwise_cons.2 ⟨fun y _ q hq => ?_,s.dis⟩
    cases hq
  · rcases List.mem_cons.1 hx with rfl | hx
    · cases hq
    · intro e
      rcases hat with c | c
      · exact s.sep x hx q hq (by rw [← c];exact e)
      · rw [c] at e
        cases e
        have:=((s.rows x hx).lt _ hq).2
        omega
theorem ThrW.top {x:WFr} (s:ThrW h B k W go Inv lo hi gc w F L (x :: S) D d w1):∃ q cs,D = some ⟨q,0,none⟩∧w.heap.size + 1≤q∧q < w1.heap.size∧S.length + 1≤d∧w1.heap[q]? = some (.cells cs 226 (0,0))∧FrQ lo hi (fun j => cs[S.length * 7 + j]?) x:=by
  have hg:(x :: S).reverse[S.length]? = some x:=by rw [List.reverse_cons,List.getElem?_append_right (by simp)];simp
  obtain ⟨vs,h1,h2⟩:=s.stk
  rcases h2.2 with ⟨hv',hn⟩ | ⟨q,cap,cur,hv',hge,hh,hnc,hcm,hsz,hcur⟩
  · simp at hn
  · simp only [Value.slice.injEq] at hv'
    obtain ⟨rfl,-,rfl⟩:=hv'
    refine ⟨q,cur,rfl,hge,(Array.getElem?_eq_some_iff.1 hh).1,by simpa using hnc,hh,?_⟩
    refine (frQ_ok lo hi).ext _ _ _ (fun j hj => ?_) (h1.2 S.length x hg)
    rw [← hcur,List.getElem?_take_of_lt (by simp;omega),Array.getElem?_toList]
theorem ThrW.on {o:Option T} {a a':Int} {p p' A:Option Addr} {m c q:Nat} {cs:Array Value} {L':List T} (hv:VisitW fid h B k W go Inv) (s:ThrW h B k W go Inv lo hi gc w F [] (⟨o,a,p,A,m,c⟩ :: S) (some ⟨q,0,none⟩) d w1)
    (hcs:w1.heap[q]? = some (.cells cs 226 (0,0))) (hq2:w2.heap[q]? = some (.cells (stepTo cs (S.length * 7) a' p') 226 (0,0))) (hf:Foot (fun b => b = q) w1 w2) (ha1:-1≤a') (ha2:a'≤65536)
    (hL:pend lo hi ⟨o,a,p,A,m,c⟩ = L' ++ pend lo hi ⟨o,a',p',A,m,c⟩):ThrW h B k W go Inv lo hi gc w F L' (⟨o,a',p',A,m,c⟩ :: S) (some ⟨q,0,none⟩) d w2:=by
  obtain ⟨us,F',e1,e2,e3,e4,e5,e6,e7,e8⟩:=s.us
  have hlt:=s.lt
  have hqF:¬ F' q:=e7 q rfl
  have hqlt:=(s.stk.lt q rfl)
  have hinb:=hv.inb _ _ _ e4
  have hall:∀ x∈(⟨o,a',p',A,m,c⟩:WFr) :: S,∃ y∈(⟨o,a,p,A,m,c⟩:WFr) :: S,x.own = y.own∧x.A = y.A∧x.m = y.m∧x.c = y.c∧x.o = y.o:=fun x hx => by
    rcases List.mem_cons.1 hx with rfl | hx
    · exact ⟨_,List.mem_cons_self,rfl,rfl,rfl,rfl,rfl⟩
    · exact ⟨x,List.mem_cons_of_mem _ hx,rfl,rfl,rfl,rfl,rfl⟩
  have hset:OwnL 226 7 (FrQ lo hi) ((w1.setCell ⟨q,S.length * 7 + 4,none⟩ (.int .i64 a')).setCell ⟨q,S.length * 7 + 5,none⟩ (.pointer p')) (w.heap.size + 1) (.slice (some ⟨q,0,none⟩) (S.length + 1) d) ((⟨o,a',p',A,m,c⟩ :: S).reverse):=by
    have hlen:S.length < ((⟨o,a,p,A,m,c⟩ :: S:List WFr).reverse).length:=by simp
    obtain ⟨g1,hg1,r1⟩:=OwnL.set (i:=S.length) (j:=4) (x:=(⟨o,a',p,A,m,c⟩:WFr)) (u:=.int .i64 a') s.stk (frQ_ok lo hi) hlen (by omega) (by
      intro f y hy hf
      rw [List.reverse_cons,List.getElem?_append_right (by simp)] at hy
      simp at hy
      subst hy
      exact ⟨hf.1,hf.2.1,hf.2.2.1,hf.2.2.2.1,rfl,hf.2.2.2.2.2.1,hf.2.2.2.2.2.2⟩)
    have hq1:q = g1:=by simp only [Option.some.injEq,Addr.mk.injEq] at hg1;exact hg1.1
    subst hq1
    rw [show ((⟨o,a,p,A,m,c⟩ :: S:List WFr).reverse).set S.length (⟨o,a',p,A,m,c⟩:WFr) = (⟨o,a',p,A,m,c⟩ :: S:List WFr).reverse by
      simp only [List.reverse_cons]
      rw [List.set_append_right _ _ (by simp)]
      simp] at r1
    obtain ⟨g2,hg2,r2⟩:=OwnL.set (i:=S.length) (j:=5) (x:=(⟨o,a',p',A,m,c⟩:WFr)) (u:=.pointer p') r1 (frQ_ok lo hi) (by simp) (by omega) (by
      intro f y hy hf
      rw [List.reverse_cons,List.getElem?_append_right (by simp)] at hy
      simp at hy
      subst hy
      exact ⟨hf.1,hf.2.1,hf.2.2.1,hf.2.2.2.1,hf.2.2.2.2.1,rfl,hf.2.2.2.2.2.2⟩)
    have hq2:q = g2:=by simp only [Option.some.injEq,Addr.mk.injEq] at hg2;exact hg2.1
    subst hq2
    rw [show ((⟨o,a',p,A,m,c⟩ :: S:List WFr).reverse).set S.length (⟨o,a',p',A,m,c⟩:WFr) = (⟨o,a',p',A,m,c⟩ :: S:List WFr).reverse by
      simp only [List.reverse_cons]
      rw [List.set_append_right _ _ (by simp)]
      simp] at r2
    exact r2
  have hsame:w2.heap[q]? = ((w1.setCell ⟨q,S.length * 7 + 4,none⟩ (.int .i64 a')).setCell ⟨q,S.length * 7 + 5,none⟩ (.pointer p')).heap[q]?:=by
    rw [hq2,block_set (block_set hcs _) _]
    rfl
  refine ⟨⟨us,F',?_,e2,?_,hv.frame _ _ _ _ e4 hf.size (fun b hF => hf.block b (hinb b hF).1 (fun e => hqF (e ▸ hF))),e5,e6,e7,fun x hx r hr => ?_⟩,fun x hx => ?_,s.foot.trans hf (fun b hb => .inr (by subst hb;omega)),?_,?_,fun x hx => ?_,?_,fun x hx r hr => ?_,s.lev⟩
  · rw [e1,restW_cons,restW_cons,hL];simp
  · rw [e3,restW_cons,restW_cons,hL];simp
  · obtain ⟨y,hy,ey,-⟩:=hall x hx
    exact e8 y hy r (ey ▸ hr)
  · rcases List.mem_cons.1 hx with rfl | hx
    · exact ⟨(s.fr _ List.mem_cons_self).1,ha1,ha2⟩
    · exact s.fr x (List.mem_cons_of_mem _ hx)
  · rw [hf.block _ hlt (by omega)]
    exact s.box
  · refine hset.block fun r hr => ?_
    rw [own_block] at hr
    simp only [Option.map_some,Option.some.injEq] at hr
    subst hr
    exact hsame
  · obtain ⟨y,hy,ey,eA,em,ec,-⟩:=hall x hx
    have hr:=s.rows y hy
    have hne:∀ r,y.own = some r→r≠q:=fun r hr e => s.sep y hy r hr (by rw [e];rfl)
    have:=hr.block fun r h2 => hf.block r (hr.lt r h2).2 (hne r h2)
    obtain ⟨l,l1,l2⟩:=this
    exact ⟨l,by rw [em];exact l1,by rw [eA,em,ec];exact l2⟩
  · exact List.pairwise_cons.2 ⟨(List.pairwise_cons.1 s.dis).1,(List.pairwise_cons.1 s.dis).2⟩
  · obtain ⟨y,hy,ey,-⟩:=hall x hx
    exact s.sep y hy r (ey ▸ hr)
theorem ThrW.pop {x:WFr} (s:ThrW h B k W go Inv lo hi gc w F [] (x :: S) D d w1) (hx:pend lo hi x = []):ThrW h B k W go Inv lo hi gc w F [] S D d w1:=by
  obtain ⟨us,F',e1,e2,e3,e4,e5,e6,e7,e8⟩:=s.us
  refine ⟨⟨us,F',by rw [e1,restW_cons,hx,List.nil_append],e2,by rw [e3,restW_cons,hx,List.nil_append],e4,e5,e6,e7,fun y hy => e8 y (List.mem_cons_of_mem _ hy)⟩,fun y hy => s.fr y (List.mem_cons_of_mem _ hy),s.foot,s.box,?_,fun y hy => s.rows y (List.mem_cons_of_mem _ hy),(List.pairwise_cons.1 s.dis).2,fun y hy => s.sep y (List.mem_cons_of_mem _ hy),s.lev.2⟩
  have h7:=OwnL.take (frQ_ok lo hi) s.stk S.length (by simp)
  rw [show ((x :: S).reverse).take S.length = S.reverse by rw [List.reverse_cons,List.take_append_of_le_length (by simp),List.take_of_length_le (by simp)]] at h7
  exact h7
theorem ThrW.app {o:Option T} {a:Int} {p A A2:Option Addr} {m c c2 q:Nat} {M:List Met} (hv:VisitW fid h B k W go Inv) (s:ThrW h B k W go Inv lo hi gc w F [] (⟨o,a,p,A,m,c⟩ :: S) (some ⟨q,0,none⟩) d w1) {ob:Obj} (hM:M.length = m + 1)
    (hown:OwnL 160 3 MeQ w2 (w.heap.size + 1) (.slice A2 (m + 1) c2) M) (hgr:(w1.alloc ob).grownBy w2 (A.map (·.block))) (hat:A2.map (·.block) = A.map (·.block)∨A2.map (·.block) = some (w1.heap.size + 1)) :
    ThrW h B k W go Inv lo hi gc w F [] (⟨o,a,p,A2,m + 1,c2⟩ :: S) (some ⟨q,0,none⟩) d (w2.setCell ⟨q,S.length * 7 + 6,none⟩ (.slice A2 (m + 1) c2)):=by
  obtain ⟨us,F',e1,e2,e3,e4,e5,e6,e7,e8⟩:=s.us
  have hlt:=s.lt
  have hqF:¬ F' q:=e7 q rfl
  have hqlt:=(s.stk.lt q rfl)
  have hinb:=hv.inb _ _ _ e4
  have hsz:w1.heap.size≤w2.heap.size:=Nat.le_trans (by simp) hgr.size
  have hAlt:∀ r,A.map (·.block) = some r→w.heap.size + 1≤r∧r < w1.heap.size:=fun r hr => (s.rows _ List.mem_cons_self).lt r hr
  have hAq:A.map (·.block)≠some q:=fun e => s.sep _ List.mem_cons_self q e rfl
  have hAF:∀ r,A.map (·.block) = some r→¬ F' r:=fun r hr => e8 _ List.mem_cons_self r hr
  have hblk:∀ b,b < w1.heap.size→A.map (·.block)≠some b→w2.heap[b]? = w1.heap[b]?:=fun b hb hne => by
    rw [hgr.block b (by simp;omega) (fun e => hne e.symm),Below.heap_alloc _ _ _ (by omega)]
  have hblk2:∀ b,b < w1.heap.size→A.map (·.block)≠some b→b≠q→(w2.setCell ⟨q,S.length * 7 + 6,none⟩ (.slice A2 (m + 1) c2)).heap[b]? = w1.heap[b]?:=fun b hb hne hq => by
    rw [Below.heap_setCell _ _ _ _ (by simpa using hq)]
    exact hblk b hb hne
  have hA2q:A2.map (·.block)≠some q:=by
    rcases hat with e | e
    · rw [e];exact hAq
    · rw [e];simp only [ne_eq,Option.some.injEq];omega
  have hft:Foot F w (w2.setCell ⟨q,S.length * 7 + 6,none⟩ (.slice A2 (m + 1) c2)):=by
    refine s.foot.trans (F1:=fun b => A.map (·.block) = some b∨b = q) ⟨?_,?_,?_,by simpa using hsz,fun b hb hne => hblk2 b hb (fun e => hne (.inl e)) (fun e => hne (.inr e))⟩ (fun b hb => .inr ?_)
    · exact hgr.os
    · exact hgr.tape
    · exact hgr.output
    · rcases hb with hb | hb
      · have:=hAlt b hb;omega
      · subst hb;omega
  have hstk:OwnL 226 7 (FrQ lo hi) (w2.setCell ⟨q,S.length * 7 + 6,none⟩ (.slice A2 (m + 1) c2)) (w.heap.size + 1) (.slice (some ⟨q,0,none⟩) (S.length + 1) d) ((⟨o,a,p,A2,m + 1,c2⟩ :: S).reverse):=by
    have h0:StkW lo hi w2 (w.heap.size + 1) (.slice (some ⟨q,0,none⟩) (S.length + 1) d) (⟨o,a,p,A,m,c⟩ :: S):=s.stk.block fun r hr => by
      rw [own_block] at hr
      simp only [Option.map_some,Option.some.injEq] at hr
      subst hr
      exact hblk _ hqlt.2 hAq
    obtain ⟨g1,hg1,r1⟩:=OwnL.set (i:=S.length) (j:=6) (x:=(⟨o,a,p,A2,m + 1,c2⟩:WFr)) (u:=.slice A2 (m + 1) c2) h0 (frQ_ok lo hi) (by simp) (by omega) (by
      intro f y hy hf
      rw [List.reverse_cons,List.getElem?_append_right (by simp)] at hy
      simp at hy
      subst hy
      exact ⟨hf.1,hf.2.1,hf.2.2.1,hf.2.2.2.1,hf.2.2.2.2.1,hf.2.2.2.2.2.1,rfl⟩)
    have hq1:q = g1:=by simp only [Option.some.injEq,Addr.mk.injEq] at hg1;exact hg1.1
    subst hq1
    rw [show ((⟨o,a,p,A,m,c⟩ :: S:List WFr).reverse).set S.length (⟨o,a,p,A2,m + 1,c2⟩:WFr) = (⟨o,a,p,A2,m + 1,c2⟩ :: S:List WFr).reverse by
      simp only [List.reverse_cons]
      rw [List.set_append_right _ _ (by simp)]
      simp] at r1
    exact r1
  refine ⟨⟨us,F',e1,e2,e3,hv.frame _ _ _ _ e4 (by simpa using hsz) (fun b hF => hblk2 b (hinb b hF).1 (fun e => hAF b e hF) (fun e => hqF (e ▸ hF))),e5,e6,e7,fun x hx r hr hF => ?_⟩,fun x hx => ?_,hft,?_,hstk,fun x hx => ?_,?_,fun x hx r hr => ?_,s.lev⟩
  · rcases List.mem_cons.1 hx with rfl | hx
    · have hr:A2.map (·.block) = some r:=hr
      rcases hat with e | e
      · rw [e] at hr;exact hAF r hr hF
      · rw [e] at hr
        cases hr
        have:=(hinb _ hF).1
        omega
    · exact e8 x (List.mem_cons_of_mem _ hx) r hr hF
  · rcases List.mem_cons.1 hx with rfl | hx
    · exact (show NodeO w B k o∧-1≤a∧a≤65536 from s.fr ⟨o,a,p,A,m,c⟩ List.mem_cons_self)
    · exact s.fr x (List.mem_cons_of_mem _ hx)
  · rw [hblk2 _ hlt (fun e => by have:=hAlt _ e;omega) (by omega)]
    exact s.box
  · rcases List.mem_cons.1 hx with rfl | hx
    · refine ⟨M,hM,hown.block fun r hr => ?_⟩
      rw [own_block] at hr
      exact Below.heap_setCell _ _ _ _ (fun e => hA2q (by rw [hr,e]))
    · refine (s.rows x (List.mem_cons_of_mem _ hx)).block fun r hr => ?_
      refine hblk2 r ((s.rows x (List.mem_cons_of_mem _ hx)).lt r hr).2 (fun e => ?_) (fun e => ?_)
      · exact (List.pairwise_cons.1 s.dis).1 x hx r e hr
      · exact s.sep x (List.mem_cons_of_mem _ hx) r hr (by rw [e];rfl)
  · refine List.pairwise_cons.2 ⟨fun y hy r hr hy2 => ?_,(List.pairwise_cons.1 s.dis).2⟩
    have hr:A2.map (·.block) = some r:=hr
    rcases hat with e | e
    · rw [e] at hr
      exact (List.pairwise_cons.1 s.dis).1 y hy r hr hy2
    · rw [e] at hr
      cases hr
      have:=((s.rows y (List.mem_cons_of_mem _ hy)).lt _ hy2).2
      omega
  · rcases List.mem_cons.1 hx with rfl | hx
    · intro e
      have hr:A2.map (·.block) = some r:=hr
      rw [hr] at hA2q
      exact hA2q e.symm
    · exact s.sep x (List.mem_cons_of_mem _ hx) r hr
end
abbrev gdC (C:Option Addr) (m n:Nat) (C':Option Addr) (m' n':Nat) (fid h:Nat):Array Value:=#[.slice C m n,.slice C' m' n',.func (.func fid) #[] #[.pointer (some ⟨h,0,none⟩)],.func (.func 212) #[] #[]]
def J3 (J0 J1 J2:Nat→Act→World→Prop):Nat→Nat→Act→World→Prop
  | 0 => J0
  | 1 => J1
  | 2 => J2
  | _ => fun _ _ _ => False
theorem wp_scope_three {P:Program} {c r0 r1 r2:Code} {Q:Exit→Act→World→Prop} {a:Act} {w:World} (J0 J1 J2:Nat→Act→World→Prop)
    (h0:findLabel c 0 = some (Code.skip.seq r0)) (h1:findLabel c 1 = some (Code.skip.seq r1)) (h2:findLabel c 2 = some (Code.skip.seq r2))
    (up:∀ m a w,J1 m a w→r1.wp P (jumpsTo (fun l a' w' => ∃ m',m' < m∧J3 J0 J1 J2 l m' a' w') Q) a w)
    (next:∀ m,(∀ m' a w,m'≤m→J1 m' a w→r1.wp P (jumpsTo (fun l a' w' => ∃ m',m' < m∧J3 J0 J1 J2 l m' a' w') Q) a w) →
      ∀ a w,J2 m a w→r2.wp P (jumpsTo (fun l a' w' => ∃ m',m' < m∧J3 J0 J1 J2 l m' a' w') Q) a w)
    (down:∀ m,(∀ m' a w,m'≤m→J2 m' a w→r2.wp P (jumpsTo (fun l a' w' => ∃ m',m' < m∧J3 J0 J1 J2 l m' a' w') Q) a w) →
      ∀ a w,J0 m a w→r0.wp P (jumpsTo (fun l a' w' => ∃ m',m' < m∧J3 J0 J1 J2 l m' a' w') Q) a w)
    (first:(∀ m a w,J0 m a w→r0.wp P (jumpsTo (fun l a' w' => ∃ m',J3 J0 J1 J2 l m' a' w') Q) a w)→c.wp P (jumpsTo (fun l a' w' => ∃ m',J3 J0 J1 J2 l m' a' w') Q) a w):(Code.scope c).wp P Q a w:=by
  have nx:∀ m a w,J2 m a w→r2.wp P (jumpsTo (fun l a' w' => ∃ m',m' < m∧J3 J0 J1 J2 l m' a' w') Q) a w :=
    fun m a w h => next m (fun m' a w hm h => jumps_le (up m' a w h) hm) a w h
  have dn:∀ m a w,J0 m a w→r0.wp P (jumpsTo (fun l a' w' => ∃ m',m' < m∧J3 J0 J1 J2 l m' a' w') Q) a w :=
    fun m a w h => down m (fun m' a w hm h => jumps_le (nx m' a w h) hm) a w h
  refine wp_scope_labels (fun l => match l with | 0 => Code.skip.seq r0 | 1 => Code.skip.seq r1 | _ => Code.skip.seq r2) (J3 J0 J1 J2) ?_ (first fun m a w h => jumps_any (dn m a w h)) ?_
  · intro l m a w h
    match l,h with
    | 0,_ => exact h0
    | 1,_ => exact h1
    | 2,_ => exact h2
  · intro l m a w h
    match l,h with
    | 0,h => exact wp_seq (wp_skip (dn m a w h))
    | 1,h => exact wp_seq (wp_skip (up m a w h))
    | 2,h => exact wp_seq (wp_skip (nx m a w h))
theorem slots_list (l:List Value):l = (List.range l.length).map fun i => l.getD i undef:=by
  apply List.ext_getElem
  · simp
  · intro i h1 h2
    simp only [List.getElem_map,List.getElem_range]
    rw [List.getD_eq_getElem?_getD,List.getElem?_eq_getElem h1]
    rfl
theorem slots_some {a:Array Value} {i:Nat} {x:Value} (h:a[i]? = some x):a.toList.getD i undef = x:=by
  rw [List.getD_eq_getElem?_getD,Array.getElem?_toList,h]
  rfl
theorem slots_arr {a:Array Value} {n:Nat} (h:a.size = n):a = ((List.range n).map fun i => a.toList.getD i undef).toArray:=by
  subst h
  have:=slots_list a.toList
  rw [Array.length_toList] at this
  rw [← this]
structure Slo (a:Act) (x0 x1 x2 x5:Value):Prop where
  d:a.defers = []
  n:a.tmps.size = 87
  s0:a.tmps[0]? = some x0
  s1:a.tmps[1]? = some x1
  s2:a.tmps[2]? = some x2
  s5:a.tmps[5]? = some x5
theorem Slo.lit {a:Act} {x0 x1 x2 x5:Value} (h:Slo a x0 x1 x2 x5):∃ V:Nat→Value,a = { tmps:=#[x0,x1,x2,V 3,V 4,x5,V 6,V 7,V 8,V 9,V 10,V 11,V 12,V 13,V 14,V 15,V 16,V 17,V 18,V 19,V 20,V 21,V 22,V 23,V 24,V 25,V 26,V 27,V 28,V 29,V 30,V 31,V 32,V 33,V 34,V 35,V 36,V 37,V 38,V 39,V 40,V 41,V 42,V 43,V 44,V 45,V 46,V 47,V 48,V 49,V 50,V 51,V 52,V 53,V 54,V 55,V 56,V 57,V 58,V 59,V 60,V 61,V 62,V 63,V 64,V 65,V 66,V 67,V 68,V 69,V 70,V 71,V 72,V 73,V 74,V 75,V 76,V 77,V 78,V 79,V 80,V 81,V 82,V 83,V 84,V 85,V 86],defers:=[] }:=by
  refine ⟨fun i => a.tmps.toList.getD i undef,?_⟩
  have e:=slots_arr h.n
  obtain ⟨t,d⟩:=a
  have hd:d = []:=h.d
  have h0:=slots_some h.s0
  have h1:=slots_some h.s1
  have h2:=slots_some h.s2
  have h5:=slots_some h.s5
  simp only at h0 h1 h2 h5 e
  subst hd
  rw [← h0,← h1,← h2,← h5]
  congr 1
def todoN:Option T→Nat
  | some t => todoO (some t)
  | none => 1
theorem todoN_pos (o:Option T):1≤todoN o:=by
  cases o with
  | none => exact Nat.le_refl _
  | some t => exact todoO_pos t
theorem todoN_push (lo hi:List Nat) (o:Option T) (p A:Option Addr) (m c:Nat):todo lo hi ⟨o,-1,p,A,m,c⟩ + 1≤todoN o:=by
  have h1:=todo_push (lo:=lo) (hi:=hi) (o:=o) (p:=p) (A:=A) (m:=m) (c:=c)
  cases o with
  | none => have:todo lo hi ⟨none,-1,p,A,m,c⟩ = 0:=rfl;simp only [todoN];omega
  | some t => have h2:=todoO_pos t;simp only [todoN];omega
section
variable (h B k:Nat) (W:List T) (go:List T→Bool) (Inv:List T→World→(Nat→Prop)→Prop) (lo hi:List Nat) (gc:Array Value) (w:World) (F:Nat→Prop)
structure DownI (o:Option T) (S:List WFr) (D:Option Addr) (d:Nat) (w':World) (m:Nat):Prop where
  thr:ThrW h B k W go Inv lo hi gc w F (wholesO lo hi o) S D d w'
  nd:NodeO w B k o
  lv:lvO o + (S.length + 1)≤65
  ms:∀ x∈S,(x.m:Int)≤x.a
  cnt:m = 4 * (todoN o + todoW lo hi S) + 2 * S.length
structure NextI (S:List WFr) (D:Option Addr) (d:Nat) (w':World) (m:Nat):Prop where
  thr:ThrW h B k W go Inv lo hi gc w F [] S D d w'
  ne:S≠[]
  ms:∀ x∈S.tail,(x.m:Int)≤x.a
  mt:∀ x,S.head? = some x→(x.m:Int)≤x.a + 1
  cnt:m = 4 * todoW lo hi S + 2 * S.length + 1
structure UpI (S:List WFr) (D:Option Addr) (d:Nat) (w':World) (m:Nat):Prop where
  thr:ThrW h B k W go Inv lo hi gc w F [] S D d w'
  ms:∀ x∈S,(x.m:Int)≤x.a
  cnt:m = 4 * todoW lo hi S + 2 * S.length + 2
end
theorem look_o_no {w:World} {B k:Nat} {o:Option T} {C C':Option Addr} {lo hi:List Nat} (d d':Nat) (fi fp:Value) (hN:NodeO w B k o) (hX:BoxP w B k C lo C' hi) (hB:B≤w.heap.size) (hw:whO lo hi o = false) :
    Calls Tryz.prog 162 #[gdV C lo.length d C' hi.length d' fi fp,.pointer (rootP o)] w fun e w' => e = .returned (.tuple #[.bool false,leftO lo hi o])∧Below w.heap.size w w':=by
  cases o with
  | none => exact look_nil C C' lo.length d hi.length d' fi fp w
  | some t => rw [leftO_some];exact look_no d d' fi fp (hN t rfl) hX hB hw
theorem infoWStep:(Tryz.prog.info? 226).map (fun i => (i.zero,i.size,i.bytes)) = some (some (.agg #[.pointer none,.int .i64 0,.int .i64 0,.int .i64 0,.int .i64 0,.pointer none,.slice none 0 0]),7,72):=by kernel_rfl
theorem infoWMet:(Tryz.prog.info? 160).map (fun i => (i.zero,i.size,i.bytes)) = some (some (.agg #[.int .i64 0,.pointer none,.pointer none]),3,24):=by kernel_rfl
theorem slice_topW (w:World) (b off n c i:Nat) (h2:i≤n) (h3:n≤c) :
    (Instr.sliceAt 219 (.slice (some ⟨b,off,none⟩) n c) none (some (.int .i64 (i:Int))) none).run Tryz.prog w = .ok (.slice (some ⟨b,off,none⟩) i c) w:=by
  have ht:Tryz.prog.underlying 219 = some (.slice 226):=Tryz.underlying219
  have hel:Tryz.prog.elem 219 = 226:=by simp [Program.elem,ht]
  have hs:Tryz.prog.underlying 219 = some (.slice (Tryz.prog.elem 219)):=by rw [hel];exact ht
  have hsz:∀ w,(sizeOf 226).run Tryz.prog w = .ok 7 w:=fun w => by
    have h:(Tryz.prog.info? 226).map (·.size) = some 7:=by kernel_rfl
    obtain ⟨i0,hi0,hz⟩:=Option.map_eq_some_iff.1 h
    simp [sizeOf,typeInfo,hi0,hz]
  rw [run_sliceAt_slice w _ _ _ _ _ hs,run_slice_h w _ _ _ _ hs .i64 (i:Int) (by omega) (by omega),hel,hsz]
  simp [Result.andThen,sliced]
  intro _
  rw [Go.WideShapes.add_plain,Nat.add_zero]
theorem stepNext_o {w:World} {B k:Nat} {o:Option T} {lo hi:List Nat} (hN:NodeO w B k o) (hT:∀ w',Below B w w'→Tz w') {q off:Nat} {cs:Array Value} {ty:TypeId} (hB:B≤q)
    (hq:w.heap[q]? = some (.cells cs ty (0,0))) {a:Int} {p A:Option Addr} {m c:Nat} (hc:FrQ lo hi (fun j => cs[off + j]?) ⟨o,a,p,A,m,c⟩) (ha:-1≤a) (ha2:a≤65536) :
    Calls Tryz.prog 163 #[.pointer (some ⟨q,off,none⟩)] w fun e w' => ∃ (a':Int) (p':Option Addr),-1≤a'∧a'≤65536 ∧
      e = .returned (.bool (!(beyO lo hi o a).isEmpty))∧(∀ x r,beyO lo hi o a = x :: r→a' = (x.1:Int)∧p' = some ⟨x.2.blk,0,none⟩∧x∈ksO o∧beyO lo hi o (x.1:Int) = r) ∧
      w'.heap[q]? = some (.cells (stepTo cs off a' p') ty (0,0))∧Foot (fun b => b = q) w w':=by
  obtain ⟨c0,c1,c2,c3,c4,c5,c6⟩:=hc
  have c0':cs[off]? = some (.pointer (rootP o)):=c0
  have zero:(mk1 o = 0∧mk2 lo hi o = 0∧mk3 lo hi o = 0)→beyO lo hi o a = []→Calls Tryz.prog 163 #[.pointer (some ⟨q,off,none⟩)] w fun e w' => ∃ (a':Int) (p':Option Addr),-1≤a'∧a'≤65536 ∧
      e = .returned (.bool (!(beyO lo hi o a).isEmpty))∧(∀ x r,beyO lo hi o a = x :: r→a' = (x.1:Int)∧p' = some ⟨x.2.blk,0,none⟩∧x∈ksO o∧beyO lo hi o (x.1:Int) = r) ∧
      w'.heap[q]? = some (.cells (stepTo cs off a' p') ty (0,0))∧Foot (fun b => b = q) w w':=fun hz hb => by
    have k1:cs[off + 1]? = some (.int .i64 0):=by have:=c1;simp only [hz.1] at this;exact this
    have k2:cs[off + 2]? = some (.int .i64 0):=by have:=c2;simp only [hz.2.1] at this;exact this
    have k3:cs[off + 3]? = some (.int .i64 0):=by have:=c3;simp only [hz.2.2] at this;exact this
    refine (stepNext_zero hq k1 k2 k3 c4).mono ?_
    rintro e w2 ⟨rfl,hb2⟩
    refine ⟨a,p,ha,ha2,?_,?_,?_,Foot.of_below hb2⟩
    · rw [hb];rfl
    · intro x r hx
      rw [hb] at hx
      cases hx
    · rw [stepTo_self c4 c5]
      exact (hb2.block q (Array.getElem?_eq_some_iff.1 hq).1).trans hq
  cases o with
  | none => exact zero ⟨rfl,rfl,rfl⟩ rfl
  | some t =>
    cases t with
    | ent g e v => exact zero ⟨rfl,rfl,rfl⟩ rfl
    | br g l pre ks =>
      have hn:=hN _ rfl
      have hk:pre.length = k:=hn.1.len
      subst hk
      exact stepNext_c hn hT hB hq ⟨c0,c1,c2,c3,c4,c5⟩ ha ha2 (Mk.lowM_lt pre l lo hi) (Mk.highM_lt pre l lo hi)
theorem stepTo_other {cs:Array Value} {off j:Nat} {a:Int} {p:Option Addr} (h4:j≠off + 4) (h5:j≠off + 5):(stepTo cs off a p)[j]? = cs[j]?:=by
  unfold stepTo
  rw [Array.getElem?_setIfInBounds,if_neg (by omega),Array.getElem?_setIfInBounds,if_neg (by omega)]
section
variable {fid h B k:Nat} {W:List T} {go:List T→Bool} {Inv:List T→World→(Nat→Prop)→Prop} {lo hi:List Nat} {gc:Array Value} {w:World} {F:Nat→Prop} {L:List T} {S:List WFr} {D:Option Addr} {d:Nat} {w1 w2:World}
theorem ThrW.row {o:Option T} {a a':Int} {p p' A:Option Addr} {m c q:Nat} {cs:Array Value} (s:ThrW h B k W go Inv lo hi gc w F L (⟨o,a,p,A,m,c⟩ :: S) (some ⟨q,0,none⟩) d w1)
    (hcs:w1.heap[q]? = some (.cells cs 226 (0,0))) (hq2:w2.heap[q]? = some (.cells (stepTo cs (S.length * 7) a' p') 226 (0,0))) :
    StkW lo hi w2 (w.heap.size + 1) (.slice (some ⟨q,0,none⟩) (S.length + 1) d) (⟨o,a',p',A,m,c⟩ :: S):=by
  have hset:OwnL 226 7 (FrQ lo hi) ((w1.setCell ⟨q,S.length * 7 + 4,none⟩ (.int .i64 a')).setCell ⟨q,S.length * 7 + 5,none⟩ (.pointer p')) (w.heap.size + 1) (.slice (some ⟨q,0,none⟩) (S.length + 1) d) ((⟨o,a',p',A,m,c⟩ :: S).reverse):=by
    have hlen:S.length < ((⟨o,a,p,A,m,c⟩ :: S:List WFr).reverse).length:=by simp
    obtain ⟨g1,hg1,r1⟩:=OwnL.set (i:=S.length) (j:=4) (x:=(⟨o,a',p,A,m,c⟩:WFr)) (u:=.int .i64 a') s.stk (frQ_ok lo hi) hlen (by omega) (by
      intro f y hy hf
      rw [List.reverse_cons,List.getElem?_append_right (by simp)] at hy
      simp at hy
      subst hy
      exact ⟨hf.1,hf.2.1,hf.2.2.1,hf.2.2.2.1,rfl,hf.2.2.2.2.2.1,hf.2.2.2.2.2.2⟩)
    have hq1:q = g1:=by simp only [Option.some.injEq,Addr.mk.injEq] at hg1;exact hg1.1
    subst hq1
    rw [show ((⟨o,a,p,A,m,c⟩ :: S:List WFr).reverse).set S.length (⟨o,a',p,A,m,c⟩:WFr) = (⟨o,a',p,A,m,c⟩ :: S:List WFr).reverse by
      simp only [List.reverse_cons]
      rw [List.set_append_right _ _ (by simp)]
      simp] at r1
    obtain ⟨g2,hg2,r2⟩:=OwnL.set (i:=S.length) (j:=5) (x:=(⟨o,a',p',A,m,c⟩:WFr)) (u:=.pointer p') r1 (frQ_ok lo hi) (by simp) (by omega) (by
      intro f y hy hf
      rw [List.reverse_cons,List.getElem?_append_right (by simp)] at hy
      simp at hy
      subst hy
      exact ⟨hf.1,hf.2.1,hf.2.2.1,hf.2.2.2.1,hf.2.2.2.2.1,rfl,hf.2.2.2.2.2.2⟩)
    have hq2:q = g2:=by simp only [Option.some.injEq,Addr.mk.injEq] at hg2;exact hg2.1
    subst hq2
    rw [show ((⟨o,a',p,A,m,c⟩ :: S:List WFr).reverse).set S.length (⟨o,a',p',A,m,c⟩:WFr) = (⟨o,a',p',A,m,c⟩ :: S:List WFr).reverse by
      simp only [List.reverse_cons]
      rw [List.set_append_right _ _ (by simp)]
      simp] at r2
    exact r2
  have hsame:w2.heap[q]? = ((w1.setCell ⟨q,S.length * 7 + 4,none⟩ (.int .i64 a')).setCell ⟨q,S.length * 7 + 5,none⟩ (.pointer p')).heap[q]?:=by
    rw [hq2,block_set (block_set hcs _) _]
    rfl
  refine hset.block fun r hr => ?_
  rw [own_block] at hr
  simp only [Option.map_some,Option.some.injEq] at hr
  subst hr
  exact hsame
theorem ThrW.off {o:Option T} {a a':Int} {p p' A:Option Addr} {m c q:Nat} {cs:Array Value} (hv:VisitW fid h B k W go Inv) (s:ThrW h B k W go Inv lo hi gc w F [] (⟨o,a,p,A,m,c⟩ :: S) (some ⟨q,0,none⟩) d w1)
    (hcs:w1.heap[q]? = some (.cells cs 226 (0,0))) (hq2:w2.heap[q]? = some (.cells (stepTo cs (S.length * 7) a' p') 226 (0,0))) (hf:Foot (fun b => b = q) w1 w2) (hx:pend lo hi ⟨o,a,p,A,m,c⟩ = []) :
    ThrW h B k W go Inv lo hi gc w F [] S (some ⟨q,0,none⟩) d w2:=by
  have hrow:=s.row (a':=a') (p':=p') hcs hq2
  have hqlt:=(s.stk.lt q rfl)
  have s2:=s.pop hx
  obtain ⟨us,F',e1,e2,e3,e4,e5,e6,e7,e8⟩:=s2.us
  have hlt:=s.lt
  have hqF:¬ F' q:=e7 q rfl
  have hinb:=hv.inb _ _ _ e4
  refine ⟨⟨us,F',e1,e2,e3,hv.frame _ _ _ _ e4 hf.size (fun b hF => hf.block b (hinb b hF).1 (fun e => hqF (e ▸ hF))),e5,e6,e7,e8⟩,s2.fr,s2.foot.trans hf (fun b hb => .inr (by subst hb;omega)),?_,?_,fun x hx => ?_,s2.dis,s2.sep,s2.lev⟩
  · rw [hf.block _ hlt (by omega)]
    exact s2.box
  · have h7:=OwnL.take (frQ_ok lo hi) hrow S.length (by simp)
    rw [show ((⟨o,a',p',A,m,c⟩ :: S:List WFr).reverse).take S.length = S.reverse by rw [List.reverse_cons,List.take_append_of_le_length (by simp),List.take_of_length_le (by simp)]] at h7
    exact h7
  · have hne:∀ r,x.own = some r→r≠q:=fun r hr e => s2.sep x hx r hr (by rw [e];rfl)
    exact (s2.rows x hx).block fun r hr => hf.block r ((s2.rows x hx).lt r hr).2 (hne r hr)
end
theorem row_after {w1 w2:World} {ob:Obj} {q:Nat} {cs:Array Value} {ty:TypeId} {A:Option Addr} {m c:Nat} (hcs:w1.heap[q]? = some (.cells cs ty (0,0))) (hA:A.map (·.block)≠some q) (hgr:(w1.alloc ob).grownBy w2 (Value.slice A m c).ownBlock):w2.heap[q]? = some (.cells cs ty (0,0)):=by
  have hq:=(Array.getElem?_eq_some_iff.1 hcs).1
  rw [hgr.block q (by simp;omega) (by rw [own_blockW];exact fun e => hA e.symm),Below.heap_alloc _ _ _ hq]
  exact hcs
theorem up_next {fid h B k:Nat} {W:List T} {go:List T→Bool} {Inv:List T→World→(Nat→Prop)→Prop} {lo hi:List Nat} {gc:Array Value} {w:World} {F:Nat→Prop} {S:List WFr} {d:Nat} {w1 w2:World} {mm:Nat} {o:Option T} {a:Int} {p A A2:Option Addr} {m c c2 q:Nat} {M:List Met} (hv:VisitW fid h B k W go Inv)
    (s:UpI h B k W go Inv lo hi gc w F (⟨o,a,p,A,m,c⟩ :: S) (some ⟨q,0,none⟩) d w1 mm) {ob:Obj} (hM:M.length = m + 1)
    (hown:OwnL 160 3 MeQ w2 (w.heap.size + 1) (.slice A2 (m + 1) c2) M) (hgr:(w1.alloc ob).grownBy w2 (Value.slice A m c).ownBlock) (hat:(Value.slice A2 (m + 1) c2).ownBlock = (Value.slice A m c).ownBlock∨(Value.slice A2 (m + 1) c2).ownBlock = some (w1.alloc ob).heap.size) :
    ∃ mm',mm' < mm∧NextI h B k W go Inv lo hi gc w F (⟨o,a,p,A2,m + 1,c2⟩ :: S) (some ⟨q,0,none⟩) d (w2.setCell ⟨q,S.length * 7 + 6,none⟩ (.slice A2 (m + 1) c2)) mm':=by
  rw [own_blockW] at hgr
  rw [own_blockW,own_blockW] at hat
  have hsz:(w1.alloc ob).heap.size = w1.heap.size + 1:=by simp
  rw [hsz] at hat
  have ht:=s.thr.app hv hM hown hgr hat
  have hc:=s.cnt
  refine ⟨4 * todoW lo hi (⟨o,a,p,A2,m + 1,c2⟩ :: S) + 2 * (S.length + 1) + 1,?_,ht,by simp,fun x hx => s.ms x (List.mem_cons_of_mem _ hx),fun x hx => ?_,by simp⟩
  · rw [todoW_cons] at hc ⊢
    have:todo lo hi ⟨o,a,p,A2,m + 1,c2⟩ = todo lo hi ⟨o,a,p,A,m,c⟩:=rfl
    rw [this]
    simp only [List.length_cons] at hc
    omega
  · have h1:=s.ms ⟨o,a,p,A,m,c⟩ List.mem_cons_self
    simp only [List.head?_cons,Option.some.injEq] at hx
    subst hx
    simp only at h1 ⊢
    omega
theorem mem_beyO {lo hi:List Nat} {o:Option T} {a:Int} {x:Nat × T} (h:x∈beyO lo hi o a):x∈ksO o∧a < (x.1:Int):=by
  unfold beyO bey at h
  rw [List.mem_filter] at h
  refine ⟨h.1,?_⟩
  have:=h.2
  simp only [Bool.and_eq_true,decide_eq_true_eq] at this
  exact this.1
theorem kid_o {w:World} {B k:Nat} {o:Option T} (h:NodeO w B k o) {x:Nat × T} (hx:x∈ksO o):Node w B k x.2∧x.2.lv + 1≤lvO o∧x.1 < 65536:=by
  cases o with
  | none => cases hx
  | some t =>
    have hn:=h t rfl
    cases t with
    | ent g p v => cases hx
    | br g l pre ks =>
      refine ⟨hn.kid hx,?_,?_⟩
      · cases hn.1 with
        | br _ _ _ _ _ _ _ _ _ _ hc => have:=(hc x hx).1;show x.2.lv + 1≤l + 1;omega
      · cases hn.1 with
        | br _ _ _ _ _ hw => exact hw.lt16 x hx
theorem wbox_cells {w':World} {q:Nat} {gc:Array Value} {ty:TypeId} (hbox:w'.heap[q]? = some (.cells gc ty (0,0))) {j:Nat} {v:Value} (hj:gc[j]? = some v):w'.cell? ⟨q,j,none⟩ = some v:=by
  rw [cell_of_row w' _ _ _ _ (0,0) hbox];exact hj
theorem down_start {fid h B k:Nat} {W:List T} {go:List T→Bool} {Inv:List T→World→(Nat→Prop)→Prop} (hv:VisitW fid h B k W go Inv) {w:World} {F:Nat→Prop} (hI:Inv [] w F) (hgo:go [] = true) {o:Option T} (hn:NodeO w B k o)
    {lo hi:List Nat} (gc:Array Value) (hW:W = wholesO lo hi o) (hlen:lvO o≤64) :
    DownI h B k W go Inv lo hi gc w F o [] none 0 (w.alloc (.cells gc 85)) (4 * (todoN o + todoW lo hi []) + 2 * 0):=by
  have hal:=below_alloc w (.cells gc 85)
  have hFlt:∀ b,F b→b < w.heap.size∧B≤b:=hv.inb _ _ _ hI
  refine ⟨⟨⟨[],F,by rw [hW];simp [restW_nil],hgo,by rw [hW];simp [restW_nil],hv.frame _ _ _ _ hI hal.size (fun b hb => hal.block b (hFlt b hb).1),fun b hb => .inl hb,fun hb => ?_,fun q hq => ?_,fun x hx => ?_⟩,fun x hx => ?_,Foot.of_below hal,heap_at w _ _ rfl,ownL_none _ _ _,fun x hx => ?_,List.Pairwise.nil,fun x hx => ?_,trivial⟩,hn,by simp;omega,fun x hx => ?_,rfl⟩
  · have:=(hFlt _ hb).1;omega
  · cases hq
  all_goals cases hx
end Go.Proofs.YtkeepngaaleakaaGreatDoor
