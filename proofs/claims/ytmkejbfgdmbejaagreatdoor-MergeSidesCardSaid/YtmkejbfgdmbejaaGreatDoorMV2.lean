import Derived.Test.YtmkejbfgdmbejaaGreatDoorMV1
import Derived.Test.YtmkejbfgdmbejaaGreatDoorM97
namespace Go.Proofs.YtmkejbfgdmbejaaGreatDoor
open Go.ChangeShapes Go.WideShapes Go.ChangeAt Go.RowKit
open Tr (T S4 Ent Tri)
abbrev p3V (o a b:Option Addr):Value:=.agg #[.pointer o,.pointer a,.pointer b]
abbrev trV (t:Tri):Value:=p3V (rootP t.o) (rootP t.a) (rootP t.b)
structure TriN (w:World) (B k:Nat) (t:Tri):Prop where
  o:NodeO w B k t.o
  a:NodeO w B k t.a
  b:NodeO w B k t.b
theorem TriN.below {w w':World} {B B' C k:Nat} {t:Tri} (h:TriN w B k t) (hb:Below C w w') (hC:B≤C) (hB:B≤B'):TriN w' B' k t:=⟨h.o.below hb hC hB,h.a.below hb hC hB,h.b.below hb hC hB⟩
theorem TriN.mem {w:World} {B k:Nat} {t:Tri} (h:TriN w B k t) {x:T} (hx:x∈t.list):Node w B k x:=by
  rcases Tr.Tri.mem.1 hx with e | e | e
  · exact h.o x e
  · exact h.a x e
  · exact h.b x e
def BecE (t:Tri) (n:Option T):Prop:=∀ p,Tr.bec (Tr.getE (Tr.entsO t.o) p) (Tr.getE (Tr.entsO t.a) p) (Tr.getE (Tr.entsO t.b) p) = some (Tr.getE (Tr.entsO n) p)
def BecT (t:Tri) (e:Ending):Prop:=(∃ n:Option T,e = .returned (.tuple #[.pointer (rootP n),.bool true])∧(n = t.a∨n = t.b)∧BecE t n)∨(e = .returned (.tuple #[.pointer none,.bool false])∧t.list≠[])
theorem nodeP_eqn {w:World} {B B' k:Nat} {x y:Option T} (hx:NodeO w B k x) (hy:NodeO w B' k y):∃ r:Bool,(binOp .eql 74 (.pointer (rootP x)) (.pointer (rootP y))).run Tryz.prog w = .ok (.bool r) w∧(r = true→Tr.entsO x = Tr.entsO y)∧(r = false→x≠none∨y≠none):=by
  cases x with
  | none =>
    cases y with
    | none => exact ⟨true,nptr_none w,fun _ => rfl,fun h => Bool.noConfusion h⟩
    | some t =>
      obtain ⟨r,h1,h2⟩:=nodeP_eql hx hy
      exact ⟨r,h1,h2,fun _ => .inr (by simp)⟩
  | some s =>
    obtain ⟨r,h1,h2⟩:=nodeP_eql hx hy
    exact ⟨r,h1,h2,fun _ => .inl (by simp)⟩
set_option maxRecDepth 100000 in
theorem bcN_c {w:World} {B k:Nat} {t:Tri} (h:TriN w B k t) (hB:B≤w.heap.size) :
    Calls Tryz.prog 109 #[trV t] w fun e w' => BecT t e∧Below w.heap.size w w':=by
  obtain ⟨o,a,b⟩:=t
  have hb0:=below_alloc w (.cells #[.pointer (rootP o),.pointer (rootP a),.pointer (rootP b)] 97)
  have h':=h.below hb0 hB (Nat.le_refl B)
  obtain ⟨r1,e1,t1,f1⟩:=nodeP_eqn h'.a h'.b
  obtain ⟨r2,e2,t2,-⟩:=nodeP_eqn h'.a h'.o
  obtain ⟨r3,e3,t3,-⟩:=nodeP_eqn h'.b h'.o
  simp only at e1 e2 e3 t1 t2 t3 f1
  have H1:r1 = true→BecT ⟨o,a,b⟩ (.returned (.tuple #[.pointer (rootP a),.bool true])):=fun hr => .inl ⟨a,rfl,.inl rfl,fun p => by simp only;rw [← t1 hr];exact Tr.bec_ab _ _⟩
  have H2:r2 = true→BecT ⟨o,a,b⟩ (.returned (.tuple #[.pointer (rootP b),.bool true])):=fun hr => .inl ⟨b,rfl,.inr rfl,fun p => by simp only;rw [t2 hr];exact Tr.bec_ao _ _⟩
  have H3:r3 = true→BecT ⟨o,a,b⟩ (.returned (.tuple #[.pointer (rootP a),.bool true])):=fun hr => .inl ⟨a,rfl,.inl rfl,fun p => by simp only;rw [t3 hr];exact Tr.bec_bo _ _⟩
  have H4:r1 = false→BecT ⟨o,a,b⟩ (.returned (.tuple #[.pointer none,.bool false])):=fun hr => .inr ⟨rfl,fun e => by
    rcases f1 hr with c | c
    · cases a with
      | none => exact c rfl
      | some x => have:=(Tr.Tri.mem (t:=⟨o,some x,b⟩) (x:=x)).2 (.inr (.inl rfl));rw [e] at this;cases this
    · cases b with
      | none => exact c rfl
      | some x => have:=(Tr.Tri.mem (t:=⟨o,a,some x⟩) (x:=x)).2 (.inr (.inr rfl));rw [e] at this;cases this⟩
  have HH:=Lib.hid (And.intro H1 (And.intro H2 (And.intro H3 (And.intro H4 hb0))))
  clear H1 H2 H3 H4 t1 t2 t3 f1 h h' hB hb0
  simp only [trV]
  generalize rootP o = po at *
  generalize rootP a = pa at *
  generalize rootP b = pb at *
  cases r1 with
  | true =>
    go_enter Tryz.func109,Tryz.ntmps109
    go_wp2_with fail
    go_ret2
    exact ⟨HH.out.1 (by first | rfl | trivial),HH.out.2.2.2.2⟩
  | false =>
    cases r2 with
    | true =>
      go_enter Tryz.func109,Tryz.ntmps109
      go_wp2_with fail
      go_ret2
      exact ⟨HH.out.2.1 (by first | rfl | trivial),HH.out.2.2.2.2⟩
    | false =>
      cases r3 with
      | true =>
        go_enter Tryz.func109,Tryz.ntmps109
        go_wp2_with fail
        go_ret2
        exact ⟨HH.out.2.2.1 (by first | rfl | trivial),HH.out.2.2.2.2⟩
      | false =>
        go_enter Tryz.func109,Tryz.ntmps109
        go_wp2_with fail
        go_ret2
        exact ⟨HH.out.2.2.2.1 (by first | rfl | trivial),HH.out.2.2.2.2⟩
/-! ### of sums -/
theorem sums_eqIn (a b c d x y z u:Int) (w:World):(Op.equalIn 10000 153 (.agg #[.int .u64 a,.int .u64 b,.int .u64 c,.int .u64 d]) (.agg #[.int .u64 x,.int .u64 y,.int .u64 z,.int .u64 u])).run Tryz.prog w = .ok (a == x && (b == y && (c == z && d == u))) w:=by
  have u3:=Tryz.underlying64
  have a3:=Tryz.isAgg64
  have z3:=Tryz.sizeOf64
  have hS:Tryz.prog.underlying 153 = some (.struct (Tryz.prog.fieldsOf 153)):=by kernel_rfl
  have hp:Tryz.prog.stoodInHeld 153 = false:=by kernel_rfl
  rw [show (10000:Nat) = 9999 + 1 from rfl,run_equalIn_agg w 9999 153 _ _ hS hp]
  simp only [Program.fieldsOf,Tryz.underlying153]
  go_simp
  by_cases h1:a = x <;> by_cases h2:b = y <;> by_cases h3:c = z <;> by_cases h4:d = u <;> simp [h1,h2,h3,h4]
def sv:Option Nat→S4
  | none => Tr.s0
  | some v => Tr.s1 v
theorem sums_eql (x y:Option Nat) (w:World):(binOp .eql 153 (sumsV (sv x)) (sumsV (sv y))).run Tryz.prog w = .ok (.bool (decide (x = y))) w:=by
  rw [run_eql_struct,sums_eqIn]
  cases x with
  | none =>
    cases y with
    | none => rfl
    | some v => rfl
  | some u =>
    cases y with
    | none => rfl
    | some v =>
      by_cases h:u = v
      · subst h
        simp [sv,Tr.s1,Result.andThen]
      · have h':¬ (u:Int) = (v:Int):=by omega
        simp [sv,Tr.s1,Result.andThen,h,h']
set_option maxRecDepth 100000 in
theorem bcS_raw (x y z:S4) (r1 r2 r3:Bool) (e1:∀ w,(binOp .eql 153 (sumsV y) (sumsV z)).run Tryz.prog w = .ok (.bool r1) w) (e2:∀ w,(binOp .eql 153 (sumsV y) (sumsV x)).run Tryz.prog w = .ok (.bool r2) w) (e3:∀ w,(binOp .eql 153 (sumsV z) (sumsV x)).run Tryz.prog w = .ok (.bool r3) w) (w:World) :
    Calls Tryz.prog 153 #[.agg #[.int .u64 (x.c:Int),.int .u64 (x.s:Int),.int .u64 (x.lo:Int),.int .u64 (x.hi:Int),.int .u64 (y.c:Int),.int .u64 (y.s:Int),.int .u64 (y.lo:Int),.int .u64 (y.hi:Int),.int .u64 (z.c:Int),.int .u64 (z.s:Int),.int .u64 (z.lo:Int),.int .u64 (z.hi:Int)]] w fun e w' =>
      e = .returned (.tuple #[sumsV (if r1 then y else if r2 then z else if r3 then y else Tr.s0),.bool (r1 || r2 || r3)])∧Below w.heap.size w w':=by
  cases r1 with
  | true =>
    go_enter Tryz.func153,Tryz.ntmps153
    go_wp2_with fail
    refine bodyPost_ret (v:=.tuple #[sumsV y,.bool true]) (by simp [results,Tryz.results153,go_sem]) rfl ?_
    exact ⟨rfl,by ((repeat first | refine bD ?_ | with_reducible refine bN ?_ | refine bA ?_ | refine bS ?_);first | exact bR | assumption | exact bN bR | exact bN (bN bR))⟩
  | false =>
    cases r2 with
    | true =>
      go_enter Tryz.func153,Tryz.ntmps153
      go_wp2_with fail
      refine bodyPost_ret (v:=.tuple #[sumsV z,.bool true]) (by simp [results,Tryz.results153,go_sem]) rfl ?_
      exact ⟨rfl,by ((repeat first | refine bD ?_ | with_reducible refine bN ?_ | refine bA ?_ | refine bS ?_);first | exact bR | assumption | exact bN bR | exact bN (bN bR))⟩
    | false =>
      cases r3 with
      | true =>
        go_enter Tryz.func153,Tryz.ntmps153
        go_wp2_with fail
        refine bodyPost_ret (v:=.tuple #[sumsV y,.bool true]) (by simp [results,Tryz.results153,go_sem]) rfl ?_
        exact ⟨rfl,by ((repeat first | refine bD ?_ | with_reducible refine bN ?_ | refine bA ?_ | refine bS ?_);first | exact bR | assumption | exact bN bR | exact bN (bN bR))⟩
      | false =>
        go_enter Tryz.func153,Tryz.ntmps153
        go_wp2_with fail
        refine bodyPost_ret (v:=.tuple #[sumsV Tr.s0,.bool false]) (by simp [results,Tryz.results153,go_sem,Tr.s0]) rfl ?_
        exact ⟨rfl,by ((repeat first | refine bD ?_ | with_reducible refine bN ?_ | refine bA ?_ | refine bS ?_);first | exact bR | assumption | exact bN bR | exact bN (bN bR))⟩
abbrev s3V (x y z:S4):Value:=.agg #[.int .u64 (x.c:Int),.int .u64 (x.s:Int),.int .u64 (x.lo:Int),.int .u64 (x.hi:Int),.int .u64 (y.c:Int),.int .u64 (y.s:Int),.int .u64 (y.lo:Int),.int .u64 (y.hi:Int),.int .u64 (z.c:Int),.int .u64 (z.s:Int),.int .u64 (z.lo:Int),.int .u64 (z.hi:Int)]
theorem bcS_c (o a b:Option Nat) (w:World):Calls Tryz.prog 153 #[s3V (sv o) (sv a) (sv b)] w fun e w' =>
    e = .returned (.tuple #[sumsV (sv ((Tr.bec o a b).getD none)),.bool (Tr.bec o a b).isSome])∧Below w.heap.size w w':=by
  refine (bcS_raw (sv o) (sv a) (sv b) _ _ _ (fun w => sums_eql a b w) (fun w => sums_eql a o w) (fun w => sums_eql b o w) w).mono ?_
  rintro e w' ⟨rfl,hb⟩
  refine ⟨?_,hb⟩
  unfold Tr.bec
  by_cases h1:a = b
  · simp [h1]
  · rw [if_neg h1,decide_eq_false h1]
    by_cases h2:a = o
    · rw [if_pos h2,decide_eq_true h2]
      rfl
    · rw [if_neg h2,decide_eq_false h2]
      by_cases h3:b = o
      · rw [if_pos h3,decide_eq_true h3]
        rfl
      · rw [if_neg h3,decide_eq_false h3]
        rfl
namespace Tr
theorem lvlT_snoc (P:List T) (x:T):lvlT (P ++ [x]) = max (max (lvlT P) (Z.part ((P ++ [x]).head (by simp)).pre x.pre)) ((x.lv:Int) - 1):=by
  cases P with
  | nil => rfl
  | cons f r =>
    show lvlF f.pre (-1) (f :: (r ++ [x])) = max (max (lvlF f.pre (-1) (f :: r)) (Z.part f.pre x.pre)) ((x.lv:Int) - 1)
    unfold lvlF
    rw [show f :: (r ++ [x]) = (f :: r) ++ [x] from rfl,List.foldl_append]
    rfl
end Tr
theorem max3_eq (m p l:Int):(if (if m < p then p else m) < l then l else if m < p then p else m) = max (max m p) l:=by
  by_cases c:m < p
  · simp only [if_pos c]
    split <;> omega
  · simp only [if_neg c]
    split <;> omega
def LvI (w wr:World) (k:Nat) (P:List T) (u v:Value):Prop:=u = .int .i64 (Tr.lvlT P)∧((P = []∧v = .slice none 0 0)∨∃ f r h d,P = f :: r∧v = .slice (some ⟨h,0,none⟩) k d∧Pts wr wr.heap.size (some ⟨h,0,none⟩) f.pre)∧Below w.heap.size w wr
def els (t:Tri) (j:Nat):List T:=(([t.o,t.a,t.b].take j).filterMap id)
theorem els_three (t:Tri):els t 3 = t.list:=by
  obtain ⟨o,a,b⟩:=t
  cases o <;> cases a <;> cases b <;> rfl
def elAt (t:Tri) (j:Nat):Option T:=match j with
  | 0 => t.o
  | 1 => t.a
  | _ => t.b
theorem els_succ (t:Tri) {j:Nat} (h:j < 3):els t (j + 1) = els t j ++ (elAt t j).toList:=by
  obtain ⟨o,a,b⟩:=t
  match j,h with
  | 0,_ => cases o <;> rfl
  | 1,_ => cases o <;> cases a <;> rfl
  | 2,_ => cases o <;> cases a <;> cases b <;> rfl
theorem els_mem {t:Tri} {j:Nat} {x:T} (h:x∈els t j):x∈t.list:=by
  unfold els at h
  obtain ⟨o,ho,e⟩:=List.mem_filterMap.1 h
  have e':o = some x:=e
  subst e'
  have:=List.mem_of_mem_take ho
  simp only [List.mem_cons,List.not_mem_nil,or_false] at this
  rcases this with e | e | e
  · exact Tr.Tri.mem.2 (.inl e.symm)
  · exact Tr.Tri.mem.2 (.inr (.inl e.symm))
  · exact Tr.Tri.mem.2 (.inr (.inr e.symm))
theorem elAt_mem {t:Tri} {j:Nat} {x:T} (h:elAt t j = some x):x∈t.list:=by
  match j,h with
  | 0,h => exact Tr.Tri.mem.2 (.inl h)
  | 1,h => exact Tr.Tri.mem.2 (.inr (.inl h))
  | _ + 2,h => exact Tr.Tri.mem.2 (.inr (.inr h))
set_option maxRecDepth 1000000 in
set_option maxHeartbeats 4000000 in
theorem mLevel_c {w:World} {B k:Nat} {t:Tri} (h:TriN w B k t) (hB:B≤w.heap.size) {q c:Nat} (hq:q < w.heap.size) (h0:∀ j,j < 3→w.cell? ⟨q,j,none⟩ = some (.pointer (rootP (elAt t j)))) {l:Int} (hl:Tr.lvlT t.list = l) (hk:k≤16) :
    Calls Tryz.prog 151 #[.slice (some ⟨q,0,none⟩) 3 c] w fun e w' => e = .returned (.int .i64 l)∧Below w.heap.size w w':=by
  have hsn:∀ (w:World) (a:Option Addr) (n c n' c':Nat),(binOp .eql 23 (.slice a n c) (.slice none n' c')).run Tryz.prog w = .ok (.bool a.isNone) w:=fun w a n c n' c' => Lib.run_eql_slice_nil w _ _ a n c n' c' Tryz.underlying23
  have HX:=Lib.hid (And.intro h (And.intro hB (And.intro hq (And.intro h0 hl))))
  clear h hB hq h0 hl
  go_enter Tryz.func151,Tryz.ntmps151
  go_wp2_with fail
  go_loopw [3,4,12] (fun u v i wr => ∃ j:Nat,j≤3∧i = .int .i64 (j:Int)∧LvI w wr k (els t j) u v) (fun _ _ i _ => 3 - (intOf i).toNat)
  case atStart => exact ⟨0,by omega,rfl,rfl,.inl ⟨rfl,rfl⟩,Below.refl _ _⟩
  case round =>
    obtain ⟨j,hj,rfl,rfl,hv,hbr⟩:=hrel
    by_cases hlt:j < 3
    · obtain ⟨x,hx⟩:∃ x,elAt t j = x:=⟨_,rfl⟩
      have hcr:wr.cell? ⟨q,j,none⟩ = some (.pointer (rootP x)):=by rw [← hx];exact (hbr.cell (p:=⟨q,j,none⟩) HX.out.2.2.1).trans (HX.out.2.2.2.1 j hlt)
      have hsu:=els_succ t hlt
      rw [hx] at hsu
      have HB:=Lib.hid (And.intro hbr (And.intro hsu (And.intro hx hlt)))
      have m1:(0:Int)≤(j:Int):=by omega
      have m2:(j:Int) < 3:=by omega
      have f1:decide ((j:Int) < 3) = true:=decide_eq_true (by omega)
      clear hbr hsu hx hlt hj
      cases x with
      | none =>
        simp only [rootP] at hcr
        have hsu':els t (j + 1) = els t j:=by rw [HB.out.2.1];simp
        have HN:Hid (∀ A n c,n = 0∨n = k→Calls Tryz.prog 124 #[.slice A n c,.slice none 0 0] wr fun e w' => e = .returned (.tuple #[.int .i64 0,.int .i64 2])∧wr = w'):=Lib.hid fun A n c hn => by
          refine part_no A none n c 0 0 wr ?_ (by unfold maxLen;omega) (by omega)
          unfold maxLen
          omega
        go_wp2_with fail
        refine (nPrefix_nil wr).mono ?_
        rintro e w' ⟨rfl,rfl⟩
        rcases hv with ⟨hP,rfl⟩ | ⟨f,r,h,d,hP,rfl,hpt⟩
        · go_wp2_with fail
          refine (HN.out _ _ _ (.inl rfl)).mono ?_
          rintro e w' ⟨rfl,rfl⟩
          go_wp2_with fail
          go_roundw
          case rel => exact ⟨j + 1,by have:=HB.out.2.2.2;omega,by first | rfl | go_num,by rw [hsu',hP],by rw [hsu'];exact .inl ⟨hP,rfl⟩,HB.out.1⟩
          case measure =>
            have:=HB.out.2.2.2
            show 3 - ((j:Int) + 1).toNat < 3 - (j:Int).toNat
            omega
        · go_wp2_with fail
          refine (HN.out _ _ _ (.inr rfl)).mono ?_
          rintro e w' ⟨rfl,rfl⟩
          go_wp2_with fail
          go_roundw
          case rel => exact ⟨j + 1,by have:=HB.out.2.2.2;omega,by first | rfl | go_num,by rw [hsu',hP],by rw [hsu'];exact .inr ⟨f,r,h,d,hP,rfl,hpt⟩,HB.out.1⟩
          case measure =>
            have:=HB.out.2.2.2
            show 3 - ((j:Int) + 1).toNat < 3 - (j:Int).toNat
            omega
      | some x =>
        have hmem:x∈t.list:=elAt_mem HB.out.2.2.1
        have hnx:=HX.out.1.mem hmem
        have hlen:=hnx.1.len
        have hk1:=hnx.1.k1
        have hk16:=hnx.1.k16
        have hsz:=HB.out.1.size
        have hsu':els t (j + 1) = els t j ++ [x]:=HB.out.2.1
        have HPr:=prefix_at hnx HX.out.2.1 HB.out.1
        rw [hlen] at HPr
        have HLv:Hid (∀ w1,Below wr.heap.size wr w1→Calls Tryz.prog 100 #[.pointer (some ⟨x.blk,0,none⟩)] w1 fun e w' => e = .returned (.int .i64 (levI x))∧w1 = w'):=Lib.hid fun w1 hb => level_at hnx HX.out.2.1 (Below.andThen HB.out.1 hb) rfl
        have HPa:Hid (∀ (us:List Nat) (w1:World) (A A':Option Addr) (c c':Nat),us.length = k→Pts w1 w1.heap.size A us→Pts w1 w1.heap.size A' x.pre→Calls Tryz.prog 124 #[.slice A k c,.slice A' k c'] w1 fun e w' => e = .returned (.tuple #[.int .i64 (Z.part us x.pre),.int .i64 0])∧w1 = w'):=Lib.hid fun us w1 A A' c c' hu h1 h2 => by
          have hh:=part_yes A A' c c' us x.pre w1.heap.size w1 h1 h2 (by omega) (by omega) (by omega)
          rw [hu,hlen] at hh
          exact hh
        simp only [rootP] at hcr
        have hsnoc:=Tr.lvlT_snoc (els t j) x
        have HE:=Lib.hid (And.intro hsu' (And.intro hsnoc (And.intro hlen (And.intro hmem hsz))))
        clear hmem hnx hlen hk1 hk16 hsz hsu' hsnoc
        obtain ⟨lv,hlv⟩:∃ lv,levI x = lv:=⟨_,rfl⟩
        rw [hlv] at HLv
        have HLV:=Lib.hid hlv
        clear hlv
        obtain ⟨bx,hbx⟩:∃ bx,x.blk = bx:=⟨_,rfl⟩
        rw [hbx] at HPr HLv hcr
        clear hbx
        obtain ⟨m,hm⟩:∃ m,Tr.lvlT (els t j) = m:=⟨_,rfl⟩
        rw [hm]
        have HM:=Lib.hid hm
        clear hm
        rcases hv with ⟨hP,rfl⟩ | ⟨f,r,h,d,hP,rfl,hpt⟩
        · go_wp2_with fail
          refine HPr.mono ?_
          rintro e w1 ⟨h1,d1,rfl,hp1,hb1⟩
          have H1:=Lib.hid (And.intro hp1 hb1)
          clear hp1 hb1 HPr
          go_wp2_with fail
          refine (HPa.out x.pre _ _ _ _ _ HE.out.2.2.1 H1.out.1 H1.out.1).mono ?_
          rintro e w' ⟨rfl,rfl⟩
          have hmx:max (max m (Z.part x.pre x.pre)) lv = Tr.lvlT (els t (j + 1)):=by
            rw [HE.out.1,HE.out.2.1,HM.out,← HLV.out]
            simp only [hP]
            rfl
          have HMX:=Lib.hid hmx
          clear hmx HPa
          generalize Z.part x.pre x.pre = pl at *
          go_wp2_with ((with_reducible refine (HLv.out _ H1.out.2).mono ?_);rintro e w' ⟨rfl,rfl⟩)
          all_goals go_roundw
          all_goals first
            | (show 3 - ((j:Int) + 1).toNat < 3 - (j:Int).toNat;have:=HB.out.2.2.2;omega)
            | (refine ⟨j + 1,by have:=HB.out.2.2.2;omega,by first | rfl | go_num,?_,.inr ⟨x,[],h1,d1,by rw [HE.out.1,hP];rfl,rfl,H1.out.1⟩,Below.andThen HB.out.1 H1.out.2⟩
               rw [max3_eq,HMX.out])
        · have hfm:f∈t.list:=els_mem (j:=j) (by rw [hP];exact List.mem_cons_self)
          have hfl:f.pre.length = k:=(HX.out.1.mem hfm).1.len
          have hpt0:=Lib.hid (And.intro hpt hfl)
          clear hpt hfl hfm
          go_wp2_with fail
          refine HPr.mono ?_
          rintro e w1 ⟨h1,d1,rfl,hp1,hb1⟩
          have hp0:=(hpt0.out.1.below' hb1 (Nat.le_refl _)).keep hb1.size (fun _ _ => rfl)
          have H1:=Lib.hid (And.intro hp1 (And.intro hb1 hp0))
          clear hp1 hb1 HPr hp0
          go_wp2_with fail
          refine (HPa.out f.pre _ _ _ _ _ hpt0.out.2 H1.out.2.2 H1.out.1).mono ?_
          rintro e w' ⟨rfl,rfl⟩
          have hmx:max (max m (Z.part f.pre x.pre)) lv = Tr.lvlT (els t (j + 1)):=by
            rw [HE.out.1,HE.out.2.1,HM.out,← HLV.out]
            simp only [hP]
            rfl
          have HMX:=Lib.hid hmx
          clear hmx HPa
          generalize Z.part f.pre x.pre = pl at *
          go_wp2_with ((with_reducible refine (HLv.out _ H1.out.2.1).mono ?_);rintro e w' ⟨rfl,rfl⟩)
          all_goals go_roundw
          all_goals first
            | (show 3 - ((j:Int) + 1).toNat < 3 - (j:Int).toNat;have:=HB.out.2.2.2;omega)
            | (refine ⟨j + 1,by have:=HB.out.2.2.2;omega,by first | rfl | go_num,?_,.inr ⟨f,r ++ [x],h,d,by rw [HE.out.1,hP];rfl,rfl,H1.out.2.2⟩,Below.andThen HB.out.1 H1.out.2.1⟩
               rw [max3_eq,HMX.out])
    · have hj3:j = 3:=by omega
      subst hj3
      have hl:Tr.lvlT (els t 3) = l:=by rw [els_three];exact HX.out.2.2.2.2
      rw [hl]
      go_wp2_with fail
      go_ret
      exact ⟨rfl,hbr⟩
def vO (o:Option T):Option Nat:=o.map T.val
def EntT (p:List Nat) (t:Tri):Prop:=∀ x∈t.list,∃ g v,x = .ent g p v
section
variable {p:List Nat} {t:Tri}
theorem EntT.o (h:EntT p t):∀ x,t.o = some x→∃ g v,x = .ent g p v:=fun x e => h x (Tr.Tri.mem.2 (.inl e))
theorem EntT.a (h:EntT p t):∀ x,t.a = some x→∃ g v,x = .ent g p v:=fun x e => h x (Tr.Tri.mem.2 (.inr (.inl e)))
theorem EntT.b (h:EntT p t):∀ x,t.b = some x→∃ g v,x = .ent g p v:=fun x e => h x (Tr.Tri.mem.2 (.inr (.inr e)))
end
theorem sums_vO {p:List Nat} {o:Option T} (h:∀ x,o = some x→∃ g v,x = .ent g p v):Tr.sums (Tr.entsO o) = sv (vO o):=by
  cases o with
  | none => rfl
  | some x =>
    obtain ⟨g,v,rfl⟩:=h x rfl
    simp [Tr.entsO,Tr.ents_ent,Tr.sums_one,sv,vO,T.val]
theorem entsO_vO {p:List Nat} {o:Option T} (h:∀ x,o = some x→∃ g v,x = .ent g p v):Tr.entsO o = match vO o with
  | none => []
  | some v => [(p,v)]:=by
  cases o with
  | none => rfl
  | some x =>
    obtain ⟨g,v,rfl⟩:=h x rfl
    simp [Tr.entsO,Tr.ents_ent,vO,T.val]
theorem getE_vO {p:List Nat} {o:Option T} (h:∀ x,o = some x→∃ g v,x = .ent g p v) (q:List Nat):Tr.getE (Tr.entsO o) q = if Tr.key p = Tr.key q then vO o else none:=by
  rw [entsO_vO h]
  cases hv:vO o with
  | none => simp [Tr.getE,Tr.K,Sl.get]
  | some v =>
    by_cases c:Tr.key p = Tr.key q
    · simp [Tr.getE,Tr.K,Sl.get,c]
    · have c':¬ (Tr.key q:Int) = (Tr.key p:Int):=by omega
      have c'':¬ (Tr.key p:Int) = (Tr.key q:Int):=by omega
      rw [if_neg c]
      unfold Tr.getE
      rw [show Sl.get (Tr.K [(p,v)]) (Tr.key q:Int) = none by simp only [Tr.K,List.map_cons,List.map_nil,Sl.get];rw [if_neg (by first | exact c' | exact c'')]]
      rfl
theorem bec_vO {p:List Nat} {t:Tri} (h:EntT p t) {n:Option T} (hn:∀ x,n = some x→∃ g v,x = .ent g p v) (hb:Tr.bec (vO t.o) (vO t.a) (vO t.b) = some (vO n)):BecE t n:=fun q => by
  rw [getE_vO h.o q,getE_vO h.a q,getE_vO h.b q,getE_vO hn q]
  split
  · exact hb
  · rfl
def EntE (t:Tri) (e:Ending):Prop:=(∃ n:Option T,e = .returned (.tuple #[.pointer (rootP n),.bool true])∧(n = t.a∨n = t.b)∧BecE t n)∨(e = .returned (.tuple #[.pointer none,.bool false])∧Tr.bec (vO t.o) (vO t.a) (vO t.b) = none)
abbrev z4:Array Value:=#[.int .u64 0,.int .u64 0,.int .u64 0,.int .u64 0]
theorem made4 {v w2:World} (hb:Below (v.alloc (.cells z4 153)).heap.size (v.alloc (.cells z4 153)) w2):w2.heap[v.heap.size]? = some (.cells z4 153 (0,0)) :=
  (hb.block v.heap.size (by simp)).trans (heap_at v _ _ rfl)
theorem made4d {v w2:World} (hb:Below (v.drew.alloc (.cells z4 153)).heap.size (v.drew.alloc (.cells z4 153)) w2):w2.heap[v.heap.size]? = some (.cells z4 153 (0,0)):=made4 (v:=v.drew) hb
theorem keepz {w2 w3:World} {q:Nat} {c:Array Value} {ty:TypeId} (h:w2.heap[q]? = some (.cells c ty (0,0))) (hb:Below w2.heap.size w2 w3):w3.heap[q]? = some (.cells c ty (0,0)) :=
  (hb.block q (Array.getElem?_eq_some_iff.1 h).1).trans h
theorem four4 {W:World} {q:Nat} (h:W.heap[q]? = some (.cells z4 153 (0,0))):W.cell? ⟨q,0,none⟩ = some (.int .u64 0)∧W.cell? ⟨q,1,none⟩ = some (.int .u64 0)∧W.cell? ⟨q,2,none⟩ = some (.int .u64 0)∧W.cell? ⟨q,3,none⟩ = some (.int .u64 0)∧∀ i,W.frozen? ⟨q,i,none⟩ = false:=by
  refine ⟨?_,?_,?_,?_,fun i => frozen_of_row W q i _ _ h⟩
  all_goals rw [cell_of_row W _ _ _ _ (0,0) h];rfl
theorem set4 {W:World} {q:Nat} {s:S4} (h:W.heap[q]? = some (.cells z4 153 (0,0))):((((W.setCell ⟨q,0,none⟩ (.int .u64 (s.c:Int))).setCell ⟨q,1,none⟩ (.int .u64 (s.s:Int))).setCell ⟨q,2,none⟩ (.int .u64 (s.lo:Int))).setCell ⟨q,3,none⟩ (.int .u64 (s.hi:Int))).heap[q]? = some (.cells #[.int .u64 (s.c:Int),.int .u64 (s.s:Int),.int .u64 (s.lo:Int),.int .u64 (s.hi:Int)] 153 (0,0)):=by
  have h1:=heap_setCell_same _ q 0 _ _ (.int .u64 (s.c:Int)) h
  rw [show z4.setIfInBounds 0 (.int .u64 (s.c:Int)) = #[.int .u64 (s.c:Int),.int .u64 0,.int .u64 0,.int .u64 0] by simp [z4]] at h1
  have h2:=heap_setCell_same _ q 1 _ _ (.int .u64 (s.s:Int)) h1
  rw [show (#[.int .u64 (s.c:Int),.int .u64 0,.int .u64 0,.int .u64 0]:Array Value).setIfInBounds 1 (.int .u64 (s.s:Int)) = #[.int .u64 (s.c:Int),.int .u64 (s.s:Int),.int .u64 0,.int .u64 0] by simp] at h2
  have h3:=heap_setCell_same _ q 2 _ _ (.int .u64 (s.lo:Int)) h2
  rw [show (#[.int .u64 (s.c:Int),.int .u64 (s.s:Int),.int .u64 0,.int .u64 0]:Array Value).setIfInBounds 2 (.int .u64 (s.lo:Int)) = #[.int .u64 (s.c:Int),.int .u64 (s.s:Int),.int .u64 (s.lo:Int),.int .u64 0] by simp] at h3
  have h4:=heap_setCell_same _ q 3 _ _ (.int .u64 (s.hi:Int)) h3
  rw [show (#[.int .u64 (s.c:Int),.int .u64 (s.s:Int),.int .u64 (s.lo:Int),.int .u64 0]:Array Value).setIfInBounds 3 (.int .u64 (s.hi:Int)) = #[.int .u64 (s.c:Int),.int .u64 (s.s:Int),.int .u64 (s.lo:Int),.int .u64 (s.hi:Int)] by simp] at h4
  exact h4
set_option maxRecDepth 1000000 in
set_option maxHeartbeats 2000000 in
theorem tEntry_c {w:World} {B k:Nat} {p:List Nat} {t:Tri} (h:TriN w B k t) (he:EntT p t) (hB:B≤w.heap.size) :
    Calls Tryz.prog 111 #[trV t] w fun e w' => EntE t e∧Below w.heap.size w w':=by
  obtain ⟨W0,hW0⟩:∃ W0,W0 = w.alloc (.cells #[.pointer (rootP t.o),.pointer (rootP t.a),.pointer (rootP t.b)] 98):=⟨_,rfl⟩
  have hb0:Below w.heap.size w W0:=by rw [hW0];exact below_alloc _ _
  have hr0:W0.heap[w.heap.size]? = some (.cells #[.pointer (rootP t.o),.pointer (rootP t.a),.pointer (rootP t.b)] 98 (0,0)):=by rw [hW0];exact heap_at w _ _ rfl
  have hlt:w.heap.size < W0.heap.size:=(Array.getElem?_eq_some_iff.1 hr0).1
  have m0:∀ w2,Below W0.heap.size W0 w2→w2.cell? ⟨w.heap.size,0,none⟩ = some (.pointer (rootP t.o)):=fun w2 hb => by rw [cell_of_row w2 _ _ _ _ (0,0) ((hb.block _ hlt).trans hr0)];rfl
  have m1:∀ w2,Below W0.heap.size W0 w2→w2.cell? ⟨w.heap.size,1,none⟩ = some (.pointer (rootP t.a)):=fun w2 hb => by rw [cell_of_row w2 _ _ _ _ (0,0) ((hb.block _ hlt).trans hr0)];rfl
  have m2:∀ w2,Below W0.heap.size W0 w2→w2.cell? ⟨w.heap.size,2,none⟩ = some (.pointer (rootP t.b)):=fun w2 hb => by rw [cell_of_row w2 _ _ _ _ (0,0) ((hb.block _ hlt).trans hr0)];rfl
  have h0:=h.below hb0 hB (Nat.le_refl B)
  have hB0:B≤W0.heap.size:=Nat.le_trans hB hb0.size
  have HO:Hid (∀ w2,Below W0.heap.size W0 w2→Calls Tryz.prog 90 #[.pointer (rootP t.o)] w2 fun e w3 => e = .returned (sumsV (sv (vO t.o)))∧Below w2.heap.size w2 w3):=Lib.hid fun w2 hb => by
    have hh:=nSums_o (h0.o.below hb hB0 (Nat.le_refl B)) (Nat.le_trans hB0 hb.size)
    rw [sums_vO he.o] at hh
    exact hh
  have HA:Hid (∀ w2,Below W0.heap.size W0 w2→Calls Tryz.prog 90 #[.pointer (rootP t.a)] w2 fun e w3 => e = .returned (sumsV (sv (vO t.a)))∧Below w2.heap.size w2 w3):=Lib.hid fun w2 hb => by
    have hh:=nSums_o (h0.a.below hb hB0 (Nat.le_refl B)) (Nat.le_trans hB0 hb.size)
    rw [sums_vO he.a] at hh
    exact hh
  have HBb:Hid (∀ w2,Below W0.heap.size W0 w2→Calls Tryz.prog 90 #[.pointer (rootP t.b)] w2 fun e w3 => e = .returned (sumsV (sv (vO t.b)))∧Below w2.heap.size w2 w3):=Lib.hid fun w2 hb => by
    have hh:=nSums_o (h0.b.below hb hB0 (Nat.le_refl B)) (Nat.le_trans hB0 hb.size)
    rw [sums_vO he.b] at hh
    exact hh
  have HA2:=HA
  obtain ⟨x,hx⟩:∃ x,Tr.bec (vO t.o) (vO t.a) (vO t.b) = x:=⟨_,rfl⟩
  have HC:Hid (∀ w2,Calls Tryz.prog 153 #[s3V (sv (vO t.o)) (sv (vO t.a)) (sv (vO t.b))] w2 fun e w3 => e = .returned (.tuple #[sumsV (sv (x.getD none)),.bool x.isSome])∧Below w2.heap.size w2 w3):=Lib.hid fun w2 => by
    have hh:=bcS_c (vO t.o) (vO t.a) (vO t.b) w2
    rw [hx] at hh
    exact hh
  have FA:∀ y,x = some y→y = vO t.a→EntE t (.returned (.tuple #[.pointer (rootP t.a),.bool true])):=fun y e1 e2 => .inl ⟨t.a,rfl,.inl rfl,bec_vO he he.a (by rw [hx,e1,e2])⟩
  have FB:∀ y,x = some y→y = vO t.b→EntE t (.returned (.tuple #[.pointer (rootP t.b),.bool true])):=fun y e1 e2 => .inl ⟨t.b,rfl,.inr rfl,bec_vO he he.b (by rw [hx,e1,e2])⟩
  have FN:x = none→EntE t (.returned (.tuple #[.pointer none,.bool false])):=fun e => .inr ⟨rfl,by rw [hx,e]⟩
  have hor:∀ y,x = some y→y = vO t.a∨y = vO t.b:=fun y e => by
    rw [e] at hx
    unfold Tr.bec at hx
    split at hx
    · cases hx;exact .inl rfl
    · split at hx
      · cases hx;exact .inr rfl
      · split at hx
        · cases hx;exact .inl rfl
        · cases hx
  have HH:=Lib.hid (And.intro FA (And.intro FB (And.intro FN (And.intro hor (And.intro hb0 (And.intro hr0 hW0))))))
  clear FA FB FN hor hr0 hx h0 hB0 h he hB hW0 hlt
  have hbb:=Below.refl W0.heap.size W0
  simp only [trV]
  generalize rootP t.o = po at *
  generalize rootP t.a = pa at *
  generalize rootP t.b = pb at *
  generalize hvo:sv (vO t.o) = so at *
  generalize hva:sv (vO t.a) = sa at *
  generalize hvb:sv (vO t.b) = sb at *
  clear hvo hvb
  have Hva:=Lib.hid hva
  clear hva hb0
  obtain ⟨y,hy⟩:∃ y,sv (x.getD none) = y:=⟨_,rfl⟩
  obtain ⟨r,hr⟩:∃ r,x.isSome = r:=⟨_,rfl⟩
  rw [hy,hr] at HC
  have Hyr:=Lib.hid (And.intro hy hr)
  clear hy hr
  go_enter Tryz.func111,Tryz.ntmps111
  go_upto_region 1 with fail
  go_cut [4,5] from 20 (fun v u wx => (∃ q,v = Value.pointer (some ⟨q,0,none⟩)∧wx.heap[q]? = some (.cells #[.int .u64 (y.c:Int),.int .u64 (y.s:Int),.int .u64 (y.lo:Int),.int .u64 (y.hi:Int)] 153 (0,0)))∧u = Value.bool r∧Below W0.heap.size W0 wx)
  case first =>
    rw [← HH.out.2.2.2.2.2.2]
    have hSb:W0.heap.size≤W0.heap.size:=Nat.le_refl _
    go_region_held3 (fun w2 => Below W0.heap.size W0 w2) (((repeat first | refine bD ?_ | with_reducible refine bN ?_ | refine bA ?_ | refine bS ?_);first | exact bR | assumption | exact bN bR | exact bN (bN bR))) (first
      | (go_at_call 90;refine (HO.out _ (show Below W0.heap.size W0 _ by ((repeat first | refine bD ?_ | with_reducible refine bN ?_ | refine bA ?_ | refine bS ?_);first | exact bR | assumption | exact bN bR | exact bN (bN bR)))).mono ?_;rintro e wc ⟨rfl,hbwc⟩;have hBwc:Below W0.heap.size W0 wc:=Below.trans (show Below W0.heap.size W0 _ by ((repeat first | refine bD ?_ | with_reducible refine bN ?_ | refine bA ?_ | refine bS ?_);first | exact bR | assumption | exact bN bR | exact bN (bN bR))) (hbwc.mono (Below.size (show Below W0.heap.size W0 _ by ((repeat first | refine bD ?_ | with_reducible refine bN ?_ | refine bA ?_ | refine bS ?_);first | exact bR | assumption | exact bN bR | exact bN (bN bR)))));have hSwc:W0.heap.size≤wc.heap.size:=Below.size hBwc;(first | (have hz:=made4d hbwc;obtain ⟨f0,f1,f2,f3,ff⟩:=four4 hz) | (have hz:=made4 hbwc;obtain ⟨f0,f1,f2,f3,ff⟩:=four4 hz) | (have hz:=keepz hz hbwc;obtain ⟨f0,f1,f2,f3,ff⟩:=four4 hz) | skip);clear hbwc HO)
      | (go_at_call 90;refine (HA.out _ (show Below W0.heap.size W0 _ by ((repeat first | refine bD ?_ | with_reducible refine bN ?_ | refine bA ?_ | refine bS ?_);first | exact bR | assumption | exact bN bR | exact bN (bN bR)))).mono ?_;rintro e wd ⟨rfl,hbwd⟩;have hBwd:Below W0.heap.size W0 wd:=Below.trans (show Below W0.heap.size W0 _ by ((repeat first | refine bD ?_ | with_reducible refine bN ?_ | refine bA ?_ | refine bS ?_);first | exact bR | assumption | exact bN bR | exact bN (bN bR))) (hbwd.mono (Below.size (show Below W0.heap.size W0 _ by ((repeat first | refine bD ?_ | with_reducible refine bN ?_ | refine bA ?_ | refine bS ?_);first | exact bR | assumption | exact bN bR | exact bN (bN bR)))));have hSwd:W0.heap.size≤wd.heap.size:=Below.size hBwd;(first | (have hz:=made4d hbwd;obtain ⟨f0,f1,f2,f3,ff⟩:=four4 hz) | (have hz:=made4 hbwd;obtain ⟨f0,f1,f2,f3,ff⟩:=four4 hz) | (have hz:=keepz hz hbwd;obtain ⟨f0,f1,f2,f3,ff⟩:=four4 hz) | skip);clear hbwd HA)
      | (go_at_call 90;refine (HBb.out _ (show Below W0.heap.size W0 _ by ((repeat first | refine bD ?_ | with_reducible refine bN ?_ | refine bA ?_ | refine bS ?_);first | exact bR | assumption | exact bN bR | exact bN (bN bR)))).mono ?_;rintro e we ⟨rfl,hbwe⟩;have hBwe:Below W0.heap.size W0 we:=Below.trans (show Below W0.heap.size W0 _ by ((repeat first | refine bD ?_ | with_reducible refine bN ?_ | refine bA ?_ | refine bS ?_);first | exact bR | assumption | exact bN bR | exact bN (bN bR))) (hbwe.mono (Below.size (show Below W0.heap.size W0 _ by ((repeat first | refine bD ?_ | with_reducible refine bN ?_ | refine bA ?_ | refine bS ?_);first | exact bR | assumption | exact bN bR | exact bN (bN bR)))));have hSwe:W0.heap.size≤we.heap.size:=Below.size hBwe;(first | (have hz:=made4d hbwe;obtain ⟨f0,f1,f2,f3,ff⟩:=four4 hz) | (have hz:=made4 hbwe;obtain ⟨f0,f1,f2,f3,ff⟩:=four4 hz) | (have hz:=keepz hz hbwe;obtain ⟨f0,f1,f2,f3,ff⟩:=four4 hz) | skip);clear hbwe HBb)
      | (go_at_call 153;refine (HC.out _).mono ?_;rintro e wf ⟨rfl,hbwf⟩;have hBwf:Below W0.heap.size W0 wf:=Below.trans (show Below W0.heap.size W0 _ by ((repeat first | refine bD ?_ | with_reducible refine bN ?_ | refine bA ?_ | refine bS ?_);first | exact bR | assumption | exact bN bR | exact bN (bN bR))) (hbwf.mono (Below.size (show Below W0.heap.size W0 _ by ((repeat first | refine bD ?_ | with_reducible refine bN ?_ | refine bA ?_ | refine bS ?_);first | exact bR | assumption | exact bN bR | exact bN (bN bR)))));have hSwf:W0.heap.size≤wf.heap.size:=Below.size hBwf;(first | (have hz:=made4d hbwf;obtain ⟨f0,f1,f2,f3,ff⟩:=four4 hz) | (have hz:=made4 hbwf;obtain ⟨f0,f1,f2,f3,ff⟩:=four4 hz) | (have hz:=keepz hz hbwf;obtain ⟨f0,f1,f2,f3,ff⟩:=four4 hz) | skip);clear hbwf HC))
    all_goals go_wp2_with fail
    all_goals go_meet
    all_goals exact ⟨⟨_,rfl,by first | (with_reducible exact set4 (s:=y) hz) | (with_reducible exact heap_at _ _ _ rfl)⟩,rfl,by assumption⟩
  case rest =>
  obtain ⟨⟨q,rfl,hq⟩,rfl,hbx⟩:=hcut
  have HX:=Lib.hid (And.intro hq hbx)
  have hqs:q < wc.heap.size:=(Array.getElem?_eq_some_iff.1 hq).1
  have q0:∀ w2,Below wc.heap.size wc w2→w2.cell? ⟨q,0,none⟩ = some (.int .u64 (y.c:Int)):=fun w2 hb => by rw [cell_of_row w2 _ _ _ _ (0,0) ((hb.block q hqs).trans hq)];rfl
  have q1:∀ w2,Below wc.heap.size wc w2→w2.cell? ⟨q,1,none⟩ = some (.int .u64 (y.s:Int)):=fun w2 hb => by rw [cell_of_row w2 _ _ _ _ (0,0) ((hb.block q hqs).trans hq)];rfl
  have q2:∀ w2,Below wc.heap.size wc w2→w2.cell? ⟨q,2,none⟩ = some (.int .u64 (y.lo:Int)):=fun w2 hb => by rw [cell_of_row w2 _ _ _ _ (0,0) ((hb.block q hqs).trans hq)];rfl
  have q3:∀ w2,Below wc.heap.size wc w2→w2.cell? ⟨q,3,none⟩ = some (.int .u64 (y.hi:Int)):=fun w2 hb => by rw [cell_of_row w2 _ _ _ _ (0,0) ((hb.block q hqs).trans hq)];rfl
  have n1:∀ w2,Below wc.heap.size wc w2→w2.cell? ⟨w.heap.size,1,none⟩ = some (.pointer pa):=fun w2 hb => m1 w2 (Below.andThen hbx hb)
  have n2:∀ w2,Below wc.heap.size wc w2→w2.cell? ⟨w.heap.size,2,none⟩ = some (.pointer pb):=fun w2 hb => m2 w2 (Below.andThen hbx hb)
  have HA3:Hid (∀ w2,Below wc.heap.size wc w2→Calls Tryz.prog 90 #[.pointer pa] w2 fun e w3 => e = .returned (sumsV sa)∧Below w2.heap.size w2 w3):=Lib.hid fun w2 hb => HA2.out w2 (Below.andThen hbx hb)
  have hcc:=Below.refl wc.heap.size wc
  clear m0 m1 m2 HA2 hq hbx HO HA HBb HC hqs hbb
  cases x with
  | none =>
    obtain ⟨-,e2⟩:=Hyr.out
    obtain rfl:r = false:=e2.symm
    clear e2
    go_wp2_with fail
    go_ret2
    exact ⟨HH.out.2.2.1 (by first | rfl | trivial),Below.andThen HH.out.2.2.2.2.1 HX.out.2⟩
  | some y' =>
    obtain ⟨e1,e2⟩:=Hyr.out
    obtain rfl:r = true:=e2.symm
    obtain ⟨r2,hr2⟩:∃ r2,decide (y' = vO t.a) = r2:=⟨_,rfl⟩
    have heq:∀ w,(binOp .eql 153 (sumsV y) (sumsV sa)).run Tryz.prog w = .ok (.bool r2) w:=fun w => by rw [← e1,← Hva.out,← hr2];exact sums_eql y' (vO t.a) w
    have Hr2:=Lib.hid hr2
    clear e1 e2 hr2
    go_wp2_with fail
    go_region_held3 (fun w2 => Below wc.heap.size wc w2) (((repeat first | refine bD ?_ | with_reducible refine bN ?_ | refine bA ?_ | refine bS ?_);first | exact bR | assumption | exact bN bR | exact bN (bN bR)))
      ((go_at_call 90;refine (HA3.out _ (show Below wc.heap.size wc _ by ((repeat first | refine bD ?_ | with_reducible refine bN ?_ | refine bA ?_ | refine bS ?_);first | exact bR | assumption | exact bN bR | exact bN (bN bR)))).mono ?_;rintro e wg ⟨rfl,hbg⟩;have hBg:Below wc.heap.size wc wg:=Below.trans (show Below wc.heap.size wc _ by ((repeat first | refine bD ?_ | with_reducible refine bN ?_ | refine bA ?_ | refine bS ?_);first | exact bR | assumption | exact bN bR | exact bN (bN bR))) (hbg.mono (Below.size (show Below wc.heap.size wc _ by ((repeat first | refine bD ?_ | with_reducible refine bN ?_ | refine bA ?_ | refine bS ?_);first | exact bR | assumption | exact bN bR | exact bN (bN bR)))));clear hbg HA3))
    have k1:=n1 _ hBg
    have k2:=n2 _ hBg
    have HG:=Lib.hid hBg
    clear n1 n2 q0 q1 q2 q3 hBg
    cases r2 with
    | true =>
      go_wp2_with fail
      go_ret2
      exact ⟨HH.out.1 y' rfl (of_decide_eq_true Hr2.out),Below.andThen HH.out.2.2.2.2.1 (Below.andThen HX.out.2 HG.out)⟩
    | false =>
      go_wp2_with fail
      go_ret2
      refine ⟨HH.out.2.1 y' rfl ?_,Below.andThen HH.out.2.2.2.2.1 (Below.andThen HX.out.2 HG.out)⟩
      rcases HH.out.2.2.2.1 y' rfl with c | c
      · exact absurd c (of_decide_eq_false Hr2.out)
      · exact c
theorem sums_max (w:World) (a b c d:Value):(Instr.field 153 (.agg #[a,b,c,d]) 3).run Tryz.prog w = .ok d w:=by kernel_rfl
def gr2 (a b:Option T):Option T:=match a,b with
  | none,b => b
  | a,none => a
  | some x,some y => if x.val < y.val then some y else some x
theorem gr2_or (a b:Option T):gr2 a b = a∨gr2 a b = b:=by
  unfold gr2
  split
  · exact .inr rfl
  · exact .inl rfl
  · split
    · exact .inr rfl
    · exact .inl rfl
theorem gr2_vO (a b:Option T):vO (gr2 a b) = Tr.great (vO a) (vO b):=by
  cases a with
  | none => cases b <;> rfl
  | some x =>
    cases b with
    | none => rfl
    | some y =>
      simp only [gr2,vO,Option.map_some,Tr.great]
      split <;> rfl
def pickT (r:Int) (t:Tri):Option T:=if r = 1 then t.a else if r = 2 then t.b else if r = 3 then t.o else if r = 5 then gr2 t.a t.b else none
theorem pickT_vO (r:Int) (t:Tri):vO (pickT r t) = Tr.pick r (vO t.o) (vO t.a) (vO t.b):=by
  unfold pickT Tr.pick
  split
  · rfl
  · split
    · rfl
    · split
      · rfl
      · split
        · exact gr2_vO _ _
        · rfl
set_option maxRecDepth 1000000 in
set_option maxHeartbeats 4000000 in
theorem mGreat_c {w:World} {B k:Nat} {p:List Nat} {a b:Option T} (ha:NodeO w B k a) (hb:NodeO w B k b) (ea:∀ x,a = some x→∃ g v,x = .ent g p v) (eb:∀ x,b = some x→∃ g v,x = .ent g p v) (hB:B≤w.heap.size) {q c:Nat} (h0:w.cell? ⟨q,0,none⟩ = some (.pointer (rootP a))) (h1:w.cell? ⟨q,1,none⟩ = some (.pointer (rootP b))) (hq:q < w.heap.size) :
    Calls Tryz.prog 114 #[.slice (some ⟨q,0,none⟩) 2 c] w fun e w' => e = .returned (.pointer (rootP (gr2 a b)))∧Below w.heap.size w w':=by
  have HA:Hid (∀ w2,Below w.heap.size w w2→Calls Tryz.prog 90 #[.pointer (rootP a)] w2 fun e w3 => e = .returned (sumsV (sv (vO a)))∧Below w2.heap.size w2 w3):=Lib.hid fun w2 hbw => by
    have hh:=nSums_o (ha.below hbw hB (Nat.le_refl B)) (Nat.le_trans hB hbw.size)
    rw [sums_vO ea] at hh
    exact hh
  have HBb:Hid (∀ w2,Below w.heap.size w w2→Calls Tryz.prog 90 #[.pointer (rootP b)] w2 fun e w3 => e = .returned (sumsV (sv (vO b)))∧Below w2.heap.size w2 w3):=Lib.hid fun w2 hbw => by
    have hh:=nSums_o (hb.below hbw hB (Nat.le_refl B)) (Nat.le_trans hB hbw.size)
    rw [sums_vO eb] at hh
    exact hh
  have hpn:=nptr_none
  have hn2:=nptr_no2
  have hmx:=sums_max
  have m1:∀ w2,Below w.heap.size w w2→w2.cell? ⟨q,1,none⟩ = some (.pointer (rootP b)):=fun w2 hbw => (hbw.cell (p:=⟨q,1,none⟩) hq).trans h1
  clear ha hb hB m1 hq
  have hbb:=Below.refl w.heap.size w
  cases a with
  | none =>
    have h0:w.cell? ⟨q,0,none⟩ = some (.pointer none):=h0
    rw [show gr2 none b = b from rfl]
    clear HA HBb eb ea
    generalize rootP b = pb at *
    go_enter Tryz.func114,Tryz.ntmps114
    go_wp2_with fail
    refine wp_loop_rounds 3 ?_
    rw [rounds_succ]
    go_wp2_with fail
    rw [rounds_succ]
    go_wp2_with fail
    rw [rounds_succ]
    go_wp2_with fail
    go_ret
    exact ⟨rfl,by ((repeat first | refine bD ?_ | with_reducible refine bN ?_ | refine bA ?_ | refine bS ?_);first | exact bR | assumption | exact bN bR | exact bN (bN bR))⟩
  | some x =>
    cases b with
    | none =>
      simp only [rootP,gr2] at h0 h1 ⊢
      go_enter Tryz.func114,Tryz.ntmps114
      go_wp2_with fail
      refine wp_loop_rounds 3 ?_
      rw [rounds_succ]
      go_wp2_with fail
      rw [rounds_succ]
      go_wp2_with fail
      rw [rounds_succ]
      go_wp2_with fail
      go_ret
      exact ⟨rfl,by ((repeat first | refine bD ?_ | with_reducible refine bN ?_ | refine bA ?_ | refine bS ?_);first | exact bR | assumption | exact bN bR | exact bN (bN bR))⟩
    | some y =>
      obtain ⟨g,v,rfl⟩:=ea x rfl
      obtain ⟨g',u,rfl⟩:=eb y rfl
      have e1:sv (vO (some (T.ent g p v))) = Tr.s1 v:=rfl
      have e2:sv (vO (some (T.ent g' p u))) = Tr.s1 u:=rfl
      rw [e1] at HA
      rw [e2] at HBb
      simp only [rootP] at h0 h1 HA HBb ⊢
      obtain ⟨r,hr⟩:∃ r,decide (v < u) = r:=⟨_,rfl⟩
      have hg:gr2 (some (T.ent g p v)) (some (T.ent g' p u)) = if r = true then some (T.ent g' p u) else some (T.ent g p v):=by
        rw [← hr]
        by_cases c:v < u
        · simp [gr2,T.val,c]
        · simp [gr2,T.val,c]
      rw [hg]
      have d1:decide ((Tr.s1 v).hi < (Tr.s1 u).hi) = r:=hr
      clear ea eb e1 e2 hr hg
      have hq1:(T.ent g p v).blk = g:=rfl
      have hq2:(T.ent g' p u).blk = g':=rfl
      rw [hq1] at h0 HA
      rw [hq2] at h1 HBb
      go_enter Tryz.func114,Tryz.ntmps114
      go_wp2_with fail
      refine wp_loop_rounds 3 ?_
      rw [rounds_succ]
      go_wp2_with fail
      rw [rounds_succ]
      go_wp2_with fail
      refine (HBb.out _ hbb).mono ?_
      rintro e wc ⟨rfl,hbc⟩
      go_wp2_with fail
      refine (HA.out _ hbc).mono ?_
      rintro e wd ⟨rfl,hbd⟩
      have hBd:Below w.heap.size w wd:=Below.andThen hbc hbd
      clear hbc hbd HA HBb
      cases r with
      | true =>
        go_wp2_with fail
        rw [rounds_succ]
        go_wp2_with fail
        go_ret
        exact ⟨rfl,by first | assumption | ((repeat first | refine bD ?_ | with_reducible refine bN ?_ | refine bA ?_ | refine bS ?_);first | exact bR | assumption | exact bN bR | exact bN (bN bR))⟩
      | false =>
        go_wp2_with fail
        rw [rounds_succ]
        go_wp2_with fail
        go_ret
        exact ⟨rfl,by first | assumption | ((repeat first | refine bD ?_ | with_reducible refine bN ?_ | refine bA ?_ | refine bS ?_);first | exact bR | assumption | exact bN bR | exact bN (bN bR))⟩
theorem cell_next (w:World) (ob:Obj) (cs:Array Value) (ty:TypeId) {i:Nat} {v:Value} (h:cs[i]? = some v):((w.alloc ob).alloc (.cells cs ty)).cell? ⟨w.heap.size + 1,i,none⟩ = some v:=by
  have h1:=heap_at (w.alloc ob) (.cells cs ty) _ rfl
  rw [World.size_alloc] at h1
  rw [cell_of_row _ _ _ _ _ (0,0) h1]
  exact h
set_option maxRecDepth 1000000 in
set_option maxHeartbeats 4000000 in
theorem mBy_c {w:World} {B k:Nat} {p:List Nat} {t:Tri} (h:TriN w B k t) (he:EntT p t) (hB:B≤w.heap.size) (r:Int) :
    Calls Tryz.prog 60 #[trV t,.int .i64 r] w fun e w' => e = .returned (.pointer (rootP (pickT r t)))∧Below w.heap.size w w':=by
  have hb0:=below_alloc w (.cells #[.pointer (rootP t.o),.pointer (rootP t.a),.pointer (rootP t.b)] 98)
  have hG:Hid (∀ (q:Nat) (c:Nat) (w2:World),Below w.heap.size w w2→w2.cell? ⟨q,0,none⟩ = some (.pointer (rootP t.a))→w2.cell? ⟨q,1,none⟩ = some (.pointer (rootP t.b))→q < w2.heap.size→Calls Tryz.prog 114 #[.slice (some ⟨q,0,none⟩) 2 c] w2 fun e w' => e = .returned (.pointer (rootP (gr2 t.a t.b)))∧Below w2.heap.size w2 w'):=Lib.hid fun q c w2 hb z0 z1 hq =>
    mGreat_c (h.a.below hb hB (Nat.le_refl B)) (h.b.below hb hB (Nat.le_refl B)) he.a he.b (Nat.le_trans hB hb.size) z0 z1 hq
  clear h he hB
  unfold pickT
  by_cases h1:r = 1
  · subst h1
    rw [if_pos rfl]
    simp only [trV]
    go_enter Tryz.func60,Tryz.ntmps60
    go_wp2_with fail
    go_ret
    exact ⟨rfl,hb0⟩
  · rw [if_neg h1]
    have d1:(r == 1) = false:=beq_eq_false_iff_ne.2 h1
    by_cases h2:r = 2
    · subst h2
      rw [if_pos rfl]
      simp only [trV]
      go_enter Tryz.func60,Tryz.ntmps60
      go_wp2_with fail
      go_ret
      exact ⟨rfl,hb0⟩
    · rw [if_neg h2]
      have d2:(r == 2) = false:=beq_eq_false_iff_ne.2 h2
      by_cases h3:r = 3
      · subst h3
        rw [if_pos rfl]
        simp only [trV]
        go_enter Tryz.func60,Tryz.ntmps60
        go_wp2_with fail
        go_ret
        exact ⟨rfl,hb0⟩
      · rw [if_neg h3]
        have d3:(r == 3) = false:=beq_eq_false_iff_ne.2 h3
        by_cases h5:r = 5
        · subst h5
          rw [if_pos rfl]
          simp only [trV]
          generalize rootP t.o = po at *
          generalize rootP t.a = pa at *
          generalize rootP t.b = pb at *
          go_enter Tryz.func60,Tryz.ntmps60
          go_wp2_with fail
          refine (hG.out _ _ _ (Below.alloc hb0 (by simp) _) (cell_next w _ _ _ rfl) (cell_next w _ _ _ rfl) (by simp)).mono ?_
          rintro e w3 ⟨rfl,hb3⟩
          have hb4:Below w.heap.size w w3:=Below.andThen (Below.alloc hb0 (by simp) _) hb3
          go_wp2_with fail
          go_ret
          exact ⟨rfl,hb4⟩
        · rw [if_neg h5]
          have d5:(r == 5) = false:=beq_eq_false_iff_ne.2 h5
          simp only [trV]
          go_enter Tryz.func60,Tryz.ntmps60
          go_wp2_with fail
          go_ret
          exact ⟨rfl,hb0⟩
theorem entO_vO {p:List Nat} {o:Option T} (h:∀ x,o = some x→∃ g v,x = .ent g p v):entO o = ((vO o).getD 0,(vO o).isSome):=by
  cases o with
  | none => rfl
  | some x =>
    obtain ⟨g,v,rfl⟩:=h x rfl
    rfl
abbrev clV (P:Option Addr) (n d:Nat) (o a b:Option Nat):Value:=.agg #[.slice P n d,.bool o.isSome,.bool a.isSome,.bool b.isSome,.int .u64 ((o.getD 0:Nat):Int),.int .u64 ((a.getD 0:Nat):Int),.int .u64 ((b.getD 0:Nat):Int)]
abbrev cl0:Array Value:=#[.slice none 0 0,.bool false,.bool false,.bool false,.int .u64 0,.int .u64 0,.int .u64 0]
set_option maxRecDepth 1000000 in
set_option maxHeartbeats 4000000 in
theorem tClash_any {w:World} {B k m:Nat} {p:List Nat} {t:Tri} (h:TriN w B k t) (he:EntT p t) (hB:B≤w.heap.size) (_hm:p.length = m) (hne:t.a≠none∨t.b≠none)
    (HEa:∀ w1,Below w.heap.size w w1→Calls Tryz.prog 97 #[.pointer (rootP t.a)] w1 fun e w' => ∃ A n d,e = .returned (.tuple #[entryV A n d ((vO t.a).getD 0),.bool (vO t.a).isSome])∧(t.a≠none→n = m∧∃ g,A = some ⟨g,0,none⟩∧Own w' w1.heap.size (.slice A m d) p)∧Below w1.heap.size w1 w')
    (HEb:∀ w1,Below w.heap.size w w1→Calls Tryz.prog 97 #[.pointer (rootP t.b)] w1 fun e w' => ∃ A n d,e = .returned (.tuple #[entryV A n d ((vO t.b).getD 0),.bool (vO t.b).isSome])∧(t.b≠none→n = m∧∃ g,A = some ⟨g,0,none⟩∧Own w' w1.heap.size (.slice A m d) p)∧Below w1.heap.size w1 w') :
    Calls Tryz.prog 55 #[trV t] w fun e w' => ∃ g d,e = .returned (clV (some ⟨g,0,none⟩) m d (vO t.o) (vO t.a) (vO t.b))∧Own w' w.heap.size (.slice (some ⟨g,0,none⟩) m d) p∧Below w.heap.size w w':=by
  have hb0:Below w.heap.size w (w.alloc (.cells #[.pointer (rootP t.o),.pointer (rootP t.a),.pointer (rootP t.b)] 98)):=below_alloc _ _
  obtain ⟨W0,hW0⟩:∃ W0,W0 = (w.alloc (.cells #[.pointer (rootP t.o),.pointer (rootP t.a),.pointer (rootP t.b)] 98)).alloc (.cells cl0 91):=⟨_,rfl⟩
  have hbW:Below w.heap.size w W0:=by rw [hW0];exact Below.alloc hb0 (by simp) _
  have hr0:W0.heap[w.heap.size]? = some (.cells #[.pointer (rootP t.o),.pointer (rootP t.a),.pointer (rootP t.b)] 98 (0,0)):=by rw [hW0];exact heap_past _ (heap_at w _ _ rfl)
  have hr1:W0.heap[w.heap.size + 1]? = some (.cells cl0 91 (0,0)):=by rw [hW0];have:=heap_at (w.alloc (.cells #[.pointer (rootP t.o),.pointer (rootP t.a),.pointer (rootP t.b)] 98)) (.cells cl0 91) _ rfl;simpa using this
  have HO:Hid (Calls Tryz.prog 97 #[.pointer (rootP t.o)] W0 fun e w' => ∃ A n c,e = .returned (.tuple #[entryV A n c ((vO t.o).getD 0),.bool (vO t.o).isSome])∧Below W0.heap.size W0 w'):=Lib.hid (by
    have hh:=nEntry_o (h.o.below hbW hB (Nat.le_refl B)) (Nat.le_trans hB hbW.size)
    rw [entO_vO he.o] at hh
    exact hh)
  have hda:t.a = none→(vO t.a).isSome = false:=fun e => by rw [e];rfl
  have hda':t.a≠none→(vO t.a).isSome = true:=fun e => by
    cases hta:t.a with
    | none => exact absurd hta e
    | some x => rfl
  have HEa:=Lib.hid HEa
  have HEb:=Lib.hid HEb
  clear h he hB hb0
  simp only [trV]
  generalize rootP t.o = po at *
  generalize rootP t.a = pa at *
  generalize rootP t.b = pb at *
  obtain ⟨vo,hvo⟩:∃ v,(vO t.o).getD 0 = v:=⟨_,rfl⟩
  obtain ⟨va,hva⟩:∃ v,(vO t.a).getD 0 = v:=⟨_,rfl⟩
  obtain ⟨vb,hvb⟩:∃ v,(vO t.b).getD 0 = v:=⟨_,rfl⟩
  obtain ⟨io,hio⟩:∃ v,(vO t.o).isSome = v:=⟨_,rfl⟩
  obtain ⟨ia,hia⟩:∃ v,(vO t.a).isSome = v:=⟨_,rfl⟩
  obtain ⟨ib,hib⟩:∃ v,(vO t.b).isSome = v:=⟨_,rfl⟩
  rw [hvo,hio] at HO
  rw [hva,hia] at HEa
  rw [hvb,hib] at HEb
  rw [hia] at hda hda'
  simp only [clV]
  rw [hvo,hva,hvb,hio,hia,hib]
  clear hvo hva hvb hio hia hib
  have h01:w.heap.size + 1 < W0.heap.size:=(Array.getElem?_eq_some_iff.1 hr1).1
  have HW:=Lib.hid (And.intro hW0 (And.intro hbW (And.intro hr0 (And.intro hr1 (And.intro h01 (And.intro hne (And.intro hda hda')))))))
  have c1:∀ w2,Below W0.heap.size W0 w2→w2.cell? ⟨w.heap.size,1,none⟩ = some (.pointer pa):=fun w2 hb => by rw [cell_of_row w2 _ _ _ _ (0,0) ((hb.block _ (by omega)).trans hr0)];rfl
  have c2:∀ w2,Below W0.heap.size W0 w2→w2.cell? ⟨w.heap.size,2,none⟩ = some (.pointer pb):=fun w2 hb => by rw [cell_of_row w2 _ _ _ _ (0,0) ((hb.block _ (by omega)).trans hr0)];rfl
  have c0:W0.cell? ⟨w.heap.size,0,none⟩ = some (.pointer po):=by rw [cell_of_row W0 _ _ _ _ (0,0) hr0];rfl
  have C1:=Lib.hid c1
  have C2:=Lib.hid c2
  clear hW0 hbW hr0 hr1 h01 hne hda hda' c1 c2
  go_enter Tryz.func55,Tryz.ntmps55
  go_upto_region 1 with fail
  rw [← HW.out.1]
  go_wp2_with fail
  refine HO.out.mono ?_
  rintro e w1 ⟨A1,n1,d1,rfl,hb1⟩
  obtain ⟨W1,hW1⟩:∃ W1,W1 = w1.alloc (.cells #[.slice A1 n1 d1,.int .u64 (vo:Int)] 69):=⟨_,rfl⟩
  have hB1:Below W0.heap.size W0 W1:=by rw [hW1];exact Below.andThen hb1 (below_alloc _ _)
  have hq1:W1.heap[w1.heap.size]? = some (.cells #[.slice A1 n1 d1,.int .u64 (vo:Int)] 69 (0,0)):=by rw [hW1];exact heap_at w1 _ _ rfl
  have H1:=Lib.hid (And.intro hW1 (And.intro hB1 hq1))
  have k1:=C1.out W1 hB1
  have HEa1:=Lib.hid (HEa.out W1 (Below.andThen HW.out.2.1 hB1))
  clear hW1 hB1 hq1 hb1 HO c0 HEa
  go_upto_region 2 with fail
  rw [← H1.out.1]
  go_wp2_with fail
  refine HEa1.out.mono ?_
  rintro e w2 ⟨A2,n2,d2,rfl,hA2,hb2⟩
  obtain ⟨W2,hW2⟩:∃ W2,W2 = w2.alloc (.cells #[.slice A2 n2 d2,.int .u64 (va:Int)] 69):=⟨_,rfl⟩
  have hB2:Below W1.heap.size W1 W2:=by rw [hW2];exact Below.andThen hb2 (below_alloc _ _)
  have hq2:W2.heap[w2.heap.size]? = some (.cells #[.slice A2 n2 d2,.int .u64 (va:Int)] 69 (0,0)):=by rw [hW2];exact heap_at w2 _ _ rfl
  have hbw2:Below w2.heap.size w2 W2:=by rw [hW2];exact below_alloc _ _
  have H2:=Lib.hid (And.intro hW2 (And.intro hB2 (And.intro hq2 (And.intro hA2 hbw2))))
  have k2:=C2.out W2 (Below.andThen H1.out.2.1 hB2)
  have HEb2:=Lib.hid (HEb.out W2 (Below.andThen HW.out.2.1 (Below.andThen H1.out.2.1 hB2)))
  clear hW2 hB2 hq2 hb2 hA2 HEb HEa1 k1 C1 C2 hbw2
  go_upto_region 3 with fail
  rw [← H2.out.1]
  go_wp2_with fail
  refine HEb2.out.mono ?_
  rintro e w3 ⟨A3,n3,d3,rfl,hA3,hb3⟩
  obtain ⟨W3,hW3⟩:∃ W3,W3 = w3.alloc (.cells #[.slice A3 n3 d3,.int .u64 (vb:Int)] 69):=⟨_,rfl⟩
  have hB3:Below W2.heap.size W2 W3:=by rw [hW3];exact Below.andThen hb3 (below_alloc _ _)
  have hq3:W3.heap[w3.heap.size]? = some (.cells #[.slice A3 n3 d3,.int .u64 (vb:Int)] 69 (0,0)):=by rw [hW3];exact heap_at w3 _ _ rfl
  have hbw3:Below w3.heap.size w3 W3:=by rw [hW3];exact below_alloc _ _
  have p1:=keepz (keepz H1.out.2.2 H2.out.2.1) hB3
  have p2:=keepz H2.out.2.2.1 hB3
  have pr:W3.heap[w.heap.size + 1]? = some (.cells cl0 91 (0,0)):=keepz (keepz (keepz HW.out.2.2.2.1 H1.out.2.1) H2.out.2.1) hB3
  have x1:W3.cell? ⟨w1.heap.size,1,none⟩ = some (.int .u64 (vo:Int)):=by rw [cell_of_row W3 _ _ _ _ (0,0) p1];rfl
  have x20:W3.cell? ⟨w2.heap.size,0,none⟩ = some (.slice A2 n2 d2):=by rw [cell_of_row W3 _ _ _ _ (0,0) p2];rfl
  have x21:W3.cell? ⟨w2.heap.size,1,none⟩ = some (.int .u64 (va:Int)):=by rw [cell_of_row W3 _ _ _ _ (0,0) p2];rfl
  have x30:W3.cell? ⟨w3.heap.size,0,none⟩ = some (.slice A3 n3 d3):=by rw [cell_of_row W3 _ _ _ _ (0,0) hq3];rfl
  have x31:W3.cell? ⟨w3.heap.size,1,none⟩ = some (.int .u64 (vb:Int)):=by rw [cell_of_row W3 _ _ _ _ (0,0) hq3];rfl
  have z0:W3.cell? ⟨w.heap.size + 1,0,none⟩ = some (.slice none 0 0):=by rw [cell_of_row W3 _ _ _ _ (0,0) pr];rfl
  have z1:W3.cell? ⟨w.heap.size + 1,1,none⟩ = some (.bool false):=by rw [cell_of_row W3 _ _ _ _ (0,0) pr];rfl
  have z2:W3.cell? ⟨w.heap.size + 1,2,none⟩ = some (.bool false):=by rw [cell_of_row W3 _ _ _ _ (0,0) pr];rfl
  have z3:W3.cell? ⟨w.heap.size + 1,3,none⟩ = some (.bool false):=by rw [cell_of_row W3 _ _ _ _ (0,0) pr];rfl
  have z4:W3.cell? ⟨w.heap.size + 1,4,none⟩ = some (.int .u64 0):=by rw [cell_of_row W3 _ _ _ _ (0,0) pr];rfl
  have z5:W3.cell? ⟨w.heap.size + 1,5,none⟩ = some (.int .u64 0):=by rw [cell_of_row W3 _ _ _ _ (0,0) pr];rfl
  have z6:W3.cell? ⟨w.heap.size + 1,6,none⟩ = some (.int .u64 0):=by rw [cell_of_row W3 _ _ _ _ (0,0) pr];rfl
  have zf:∀ i,W3.frozen? ⟨w.heap.size + 1,i,none⟩ = false:=fun i => frozen_of_row W3 _ i _ _ pr
  have hBa:Below w.heap.size w W3:=Below.andThen HW.out.2.1 (Below.andThen H1.out.2.1 (Below.andThen H2.out.2.1 hB3))
  have H3:=Lib.hid (And.intro hW3 (And.intro hB3 (And.intro pr (And.intro hA3 (And.intro hbw3 hBa)))))
  clear hW3 hB3 hq3 hb3 hA3 HEb2 k2 p1 p2 pr hbw3 hBa
  go_upto_region 4 with fail
  rw [← H3.out.1]
  have fin:∀ (A:Option Addr) (n d:Nat) (g:Nat),A = some ⟨g,0,none⟩→n = m→Own W3 w.heap.size (.slice A m d) p→∀ W5,W5 = (((((((W3.setCell ⟨w.heap.size + 1,0,none⟩ (.slice A n d)).setCell ⟨w.heap.size + 1,1,none⟩ (.bool io)).setCell ⟨w.heap.size + 1,2,none⟩ (.bool ia)).setCell ⟨w.heap.size + 1,3,none⟩ (.bool ib)).setCell ⟨w.heap.size + 1,4,none⟩ (.int .u64 (vo:Int))).setCell ⟨w.heap.size + 1,5,none⟩ (.int .u64 (va:Int))).setCell ⟨w.heap.size + 1,6,none⟩ (.int .u64 (vb:Int)))→A.map (·.block)≠some (w.heap.size + 1) →
      Own W5 w.heap.size (.slice (some ⟨g,0,none⟩) m d) p∧Below w.heap.size w W5∧W5.heap[w.heap.size + 1]? = some (.cells #[.slice (some ⟨g,0,none⟩) m d,.bool io,.bool ia,.bool ib,.int .u64 (vo:Int),.int .u64 (va:Int),.int .u64 (vb:Int)] 91 (0,0)):=by
    intro A n d g hA hn ho W5 hW5 hg
    subst hA hn
    rw [hW5]
    have hg':∀ i,(Value.slice (some ⟨g,0,none⟩) n d).ownBlock≠some (⟨w.heap.size + 1,i,none⟩:Addr).block:=fun i e => hg (by rw [own_block] at e;exact e)
    refine ⟨own_set (own_set (own_set (own_set (own_set (own_set (own_set ho (hg' 0) _) (hg' 1) _) (hg' 2) _) (hg' 3) _) (hg' 4) _) (hg' 5) _) (hg' 6) _,?_,cells_set7 _ _ _ _ _ _ _ H3.out.2.2.1⟩
    have hb:=H3.out.2.2.2.2.2
    exact ((((((hb.setCell (p:=⟨w.heap.size + 1,0,none⟩) (Nat.le_succ _) _).setCell (p:=⟨w.heap.size + 1,1,none⟩) (Nat.le_succ _) _).setCell (p:=⟨w.heap.size + 1,2,none⟩) (Nat.le_succ _) _).setCell (p:=⟨w.heap.size + 1,3,none⟩) (Nat.le_succ _) _).setCell (p:=⟨w.heap.size + 1,4,none⟩) (Nat.le_succ _) _).setCell (p:=⟨w.heap.size + 1,5,none⟩) (Nat.le_succ _) _).setCell (p:=⟨w.heap.size + 1,6,none⟩) (Nat.le_succ _) _
  have FIN:=Lib.hid fin
  clear fin
  have s01:=H1.out.2.1.size
  have s12:=H2.out.2.1.size
  have s23:=H3.out.2.1.size
  have sb2:=H2.out.2.2.2.2.size
  have hw0:=HW.out.2.2.2.2.1
  have OA:t.a≠none→∃ g,A2 = some ⟨g,0,none⟩∧n2 = m∧Own W3 w.heap.size (.slice A2 m d2) p∧A2.map (·.block)≠some (w.heap.size + 1):=fun hn => by
    obtain ⟨hnm,g,hg,ho⟩:=H2.out.2.2.2.1 hn
    have hl:=ho.2.lt g (by rw [hg];rfl)
    refine ⟨g,hg,hnm,Own.mono ((ho.below H2.out.2.2.2.2 (Nat.le_refl _)).below H3.out.2.1 (Nat.le_refl _)) (by omega),fun e => ?_⟩
    rw [hg] at e
    simp only [Option.map_some,Option.some.injEq] at e
    omega
  have OB:t.b≠none→∃ g,A3 = some ⟨g,0,none⟩∧n3 = m∧Own W3 w.heap.size (.slice A3 m d3) p∧A3.map (·.block)≠some (w.heap.size + 1):=fun hn => by
    obtain ⟨hnm,g,hg,ho⟩:=H3.out.2.2.2.1 hn
    have hl:=ho.2.lt g (by rw [hg];rfl)
    refine ⟨g,hg,hnm,Own.mono (ho.below H3.out.2.2.2.2.1 (Nat.le_refl _)) (by omega),fun e => ?_⟩
    rw [hg] at e
    simp only [Option.map_some,Option.some.injEq] at e
    omega
  have HAB:=Lib.hid (And.intro OA OB)
  clear OA OB s01 s12 s23 sb2 hw0
  cases ia with
  | true =>
    have hna:t.a≠none:=fun e => by have:=HW.out.2.2.2.2.2.2.1 e;cases this
    obtain ⟨g,hA,hn,ho,hgg⟩:=HAB.out.1 hna
    go_wp2_with fail
    obtain ⟨W5,hW5⟩:∃ W5,W5 = (((((((W3.setCell ⟨w.heap.size + 1,0,none⟩ (.slice (some ⟨g,0,none⟩) m d2)).setCell ⟨w.heap.size + 1,1,none⟩ (.bool io)).setCell ⟨w.heap.size + 1,2,none⟩ (.bool true)).setCell ⟨w.heap.size + 1,3,none⟩ (.bool ib)).setCell ⟨w.heap.size + 1,4,none⟩ (.int .u64 (vo:Int))).setCell ⟨w.heap.size + 1,5,none⟩ (.int .u64 (va:Int))).setCell ⟨w.heap.size + 1,6,none⟩ (.int .u64 (vb:Int))):=⟨_,rfl⟩
    obtain ⟨f1,f2,f3⟩:=FIN.out A2 n2 d2 g hA hn ho W5 (by rw [hA,hn];exact hW5) hgg
    rw [← hW5]
    clear hW5
    have y0:W5.cell? ⟨w.heap.size + 1,0,none⟩ = some (.slice (some ⟨g,0,none⟩) m d2):=by rw [cell_of_row W5 _ _ _ _ (0,0) f3];rfl
    have y1:W5.cell? ⟨w.heap.size + 1,1,none⟩ = some (.bool io):=by rw [cell_of_row W5 _ _ _ _ (0,0) f3];rfl
    have y2:W5.cell? ⟨w.heap.size + 1,2,none⟩ = some (.bool true):=by rw [cell_of_row W5 _ _ _ _ (0,0) f3];rfl
    have y3:W5.cell? ⟨w.heap.size + 1,3,none⟩ = some (.bool ib):=by rw [cell_of_row W5 _ _ _ _ (0,0) f3];rfl
    have y4:W5.cell? ⟨w.heap.size + 1,4,none⟩ = some (.int .u64 (vo:Int)):=by rw [cell_of_row W5 _ _ _ _ (0,0) f3];rfl
    have y5:W5.cell? ⟨w.heap.size + 1,5,none⟩ = some (.int .u64 (va:Int)):=by rw [cell_of_row W5 _ _ _ _ (0,0) f3];rfl
    have y6:W5.cell? ⟨w.heap.size + 1,6,none⟩ = some (.int .u64 (vb:Int)):=by rw [cell_of_row W5 _ _ _ _ (0,0) f3];rfl
    refine bodyPost_ret (v:=.agg #[.slice (some ⟨g,0,none⟩) m d2,.bool io,.bool true,.bool ib,.int .u64 (vo:Int),.int .u64 (va:Int),.int .u64 (vb:Int)]) (by simp [results,Tryz.results55,go_sem,y0,y1,y2,y3,y4,y5,y6]) rfl ?_
    exact ⟨g,d2,rfl,f1,f2⟩
  | false =>
    have hna:t.b≠none:=by
      rcases HW.out.2.2.2.2.2.1 with c | c
      · have:=HW.out.2.2.2.2.2.2.2 c;cases this
      · exact c
    obtain ⟨g,hA,hn,ho,hgg⟩:=HAB.out.2 hna
    go_wp2_with fail
    obtain ⟨W5,hW5⟩:∃ W5,W5 = (((((((W3.setCell ⟨w.heap.size + 1,0,none⟩ (.slice (some ⟨g,0,none⟩) m d3)).setCell ⟨w.heap.size + 1,1,none⟩ (.bool io)).setCell ⟨w.heap.size + 1,2,none⟩ (.bool false)).setCell ⟨w.heap.size + 1,3,none⟩ (.bool ib)).setCell ⟨w.heap.size + 1,4,none⟩ (.int .u64 (vo:Int))).setCell ⟨w.heap.size + 1,5,none⟩ (.int .u64 (va:Int))).setCell ⟨w.heap.size + 1,6,none⟩ (.int .u64 (vb:Int))):=⟨_,rfl⟩
    obtain ⟨f1,f2,f3⟩:=FIN.out A3 n3 d3 g hA hn ho W5 (by rw [hA,hn];exact hW5) hgg
    rw [← hW5]
    clear hW5
    have y0:W5.cell? ⟨w.heap.size + 1,0,none⟩ = some (.slice (some ⟨g,0,none⟩) m d3):=by rw [cell_of_row W5 _ _ _ _ (0,0) f3];rfl
    have y1:W5.cell? ⟨w.heap.size + 1,1,none⟩ = some (.bool io):=by rw [cell_of_row W5 _ _ _ _ (0,0) f3];rfl
    have y2:W5.cell? ⟨w.heap.size + 1,2,none⟩ = some (.bool false):=by rw [cell_of_row W5 _ _ _ _ (0,0) f3];rfl
    have y3:W5.cell? ⟨w.heap.size + 1,3,none⟩ = some (.bool ib):=by rw [cell_of_row W5 _ _ _ _ (0,0) f3];rfl
    have y4:W5.cell? ⟨w.heap.size + 1,4,none⟩ = some (.int .u64 (vo:Int)):=by rw [cell_of_row W5 _ _ _ _ (0,0) f3];rfl
    have y5:W5.cell? ⟨w.heap.size + 1,5,none⟩ = some (.int .u64 (va:Int)):=by rw [cell_of_row W5 _ _ _ _ (0,0) f3];rfl
    have y6:W5.cell? ⟨w.heap.size + 1,6,none⟩ = some (.int .u64 (vb:Int)):=by rw [cell_of_row W5 _ _ _ _ (0,0) f3];rfl
    refine bodyPost_ret (v:=.agg #[.slice (some ⟨g,0,none⟩) m d3,.bool io,.bool false,.bool ib,.int .u64 (vo:Int),.int .u64 (va:Int),.int .u64 (vb:Int)]) (by simp [results,Tryz.results55,go_sem,y0,y1,y2,y3,y4,y5,y6]) rfl ?_
    exact ⟨g,d3,rfl,f1,f2⟩
theorem entV_c {w:World} {B k m:Nat} {p:List Nat} {o:Option T} (h:NodeO w B k o) (he:∀ x,o = some x→∃ g v,x = .ent g p v) (hB:B≤w.heap.size) (hm:p.length = m) :
    Calls Tryz.prog 97 #[.pointer (rootP o)] w fun e w' => ∃ A n d,e = .returned (.tuple #[entryV A n d ((vO o).getD 0),.bool (vO o).isSome])∧(o≠none→n = m∧∃ g,A = some ⟨g,0,none⟩∧Own w' w.heap.size (.slice A m d) p)∧Below w.heap.size w w':=by
  cases o with
  | none => exact (nEntry_nil w).mono fun e w' ⟨h1,h2⟩ => ⟨_,_,_,h1,fun hn => absurd rfl hn,h2⟩
  | some x =>
    obtain ⟨g,v,rfl⟩:=he x rfl
    exact (entS_c (h _ rfl) hB hm).mono fun e w' ⟨g',d,h1,h2,h3⟩ => ⟨_,_,_,h1,fun _ => ⟨rfl,g',rfl,h2⟩,h3⟩
theorem tClash_c {w:World} {B k m:Nat} {p:List Nat} {t:Tri} (h:TriN w B k t) (he:EntT p t) (hB:B≤w.heap.size) (hm:p.length = m) (hne:t.a≠none∨t.b≠none) :
    Calls Tryz.prog 55 #[trV t] w fun e w' => ∃ g d,e = .returned (clV (some ⟨g,0,none⟩) m d (vO t.o) (vO t.a) (vO t.b))∧Own w' w.heap.size (.slice (some ⟨g,0,none⟩) m d) p∧Below w.heap.size w w' :=
  tClash_any h he hB hm hne (fun _ hb => entV_c (h.a.below hb hB (Nat.le_refl B)) he.a (Nat.le_trans hB hb.size) hm) (fun _ hb => entV_c (h.b.below hb hB (Nat.le_refl B)) he.b (Nat.le_trans hB hb.size) hm)
end Go.Proofs.YtmkejbfgdmbejaaGreatDoor
