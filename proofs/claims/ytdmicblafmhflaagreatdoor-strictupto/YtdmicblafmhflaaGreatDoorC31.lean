/- Package digest: behind. -/
import Derived.Test.YtdmicblafmhflaaGreatDoorC30
import Derived.Deep.RegionHeld3
set_option linter.unusedSimpArgs false
set_option linter.unusedVariables false
set_option maxHeartbeats 4000000
set_option maxRecDepth 100000
namespace Go.Proofs.YtdmicblafmhflaaGreatDoor
section
open Go.RowKit
namespace Dg
def C4(w:World)(K:Nat→Int):Prop:=∀i,i<64→w.cell? ⟨0,i,none⟩=some (.int .u32 (K i))
theorem C4.below{w w':World}{K:Nat→Int}(h:C4 w K)(hb:Below w.heap.size w w'):C4 w' K:=fun i hi=>by
 rw[hb.cell (block_lt_of_cell (h i hi))]
 exact h i hi
def vH(K s ws:Nat→Int):Nat→Nat→Int
 | 0=>s
 | n+1=>Hj (vH K s ws n) ((ws n+K n)%4294967296)
def iq(K s ws:Nat→Int)(k:Nat):Nat→Int:=fun j=>if j<k then (s j+vH K s ws 64 j)%4294967296 else s j
def behind:(Nat→Int)→(Nat→Int)→(Nat→Int)→Nat→Int:=shut fun K s ws=>iq K s ws 8
end Dg
theorem AB{n:Nat}{f:Nat→Int}{T:TypeId}(hu:Tryz.prog.underlying T=some (.array n 228))(W:World){i:Nat}(hi:i<n):(Instr.index T (.agg (Dg.bp n .u32 f)) (.int .i64 i)).run Tryz.prog W=.ok (.int .u32 (f i)) W:=by
 have h1:=run_underlying hu W
 have h2:=Tryz.sizeOf228 W
 have h3:=Tryz.isAgg228 W
 have hg:=Dg.sg (k:=.u32) (f:=f) hi
 simp[Instr.index,asIntOf,h1,h2,part,h3,hi,hg]
theorem TU(w:World)(o0 o1 o2 o3:Obj):Below w.heap.size w ((((w.alloc o0).alloc o1).alloc o2).alloc o3)∧((((w.alloc o0).alloc o1).alloc o2).alloc o3).heap.size=w.heap.size+4∧
 ((((w.alloc o0).alloc o1).alloc o2).alloc o3).heap[w.heap.size]?=some o0∧((((w.alloc o0).alloc o1).alloc o2).alloc o3).heap[w.heap.size+1]?=some o1∧((((w.alloc o0).alloc o1).alloc o2).alloc o3).heap[w.heap.size+1+1]?=some o2∧((((w.alloc o0).alloc o1).alloc o2).alloc o3).heap[w.heap.size+1+1+1]?=some o3:=by
 refine⟨((((Below.refl _ _).alloc (Nat.le_refl _) _).alloc (by simp) _).alloc (by simp only[World.size_alloc];omega) _).alloc (by simp only[World.size_alloc];omega) _,by simp, ?_, ?_, ?_, ?_⟩
 · rw[Below.heap_alloc _ _ _ (by simp only[World.size_alloc];omega),Below.heap_alloc _ _ _ (by simp only[World.size_alloc];omega),Below.heap_alloc _ _ _ (by simp)]
   exact heap_alloc_new w _
 · rw[Below.heap_alloc _ _ _ (by simp only[World.size_alloc];omega),Below.heap_alloc _ _ _ (by simp only[World.size_alloc];omega)]
   exact pN w _ _
 · rw[Below.heap_alloc _ _ _ (by simp)]
   have:=pN (w.alloc o0) o1 o2
   simpa using this
 · have:=pN ((w.alloc o0).alloc o1) o2 o3
   simpa using this
theorem GY(K s ws:Nat→Int)(w:World)(hK:Dg.C4 w K):Calls Tryz.prog 119 #[.agg (Dg.zw s),.agg (Dg.bp 64 .u32 ws)] w fun e w'=>e=.returned (.agg (Dg.zw (Dg.behind K s ws)))∧Below w.heap.size w w':=by
 have HE:Hid (Dg.behind K s ws=Dg.iq K s ws 8):=by
  have:Dg.behind K s ws=Dg.iq K s ws 8:=by unfold Dg.behind;rw[Dg.jm]
  exact this
 have HK:Hid (Dg.C4 w K):=hK
 have hix:∀(W:World) (i:Nat),i<64→(Instr.index 234 (.agg (Dg.bp 64 .u32 ws)) (.int .i64 i)).run Tryz.prog W=.ok (.int .u32 (ws i)) W:=by
  intro W i hi
  exact AB Tryz.underlying234 W hi
 have e8:Dg.zw s=#[.int .u32 (s 0),.int .u32 (s 1),.int .u32 (s 2),.int .u32 (s 3),.int .u32 (s 4),.int .u32 (s 5),.int .u32 (s 6),.int .u32 (s 7)]:=rfl
 rw[e8]
 clear e8 hK
 go_enter Tryz.func119,Tryz.ntmps119
 go_upto_region 2 with fail
 obtain⟨jb,js,j0,j1,j2,j3⟩:=TU w (.cells #[.int .u32 (s 0),.int .u32 (s 1),.int .u32 (s 2),.int .u32 (s 3),.int .u32 (s 4),.int .u32 (s 5),.int .u32 (s 6),.int .u32 (s 7)] 230) (.cells (Dg.bp 64 .u32 ws) 234) (.cells #[.int .u32 0,.int .u32 0,.int .u32 0,.int .u32 0,.int .u32 0,.int .u32 0,.int .u32 0,.int .u32 0] 230) (.cells #[.int .u32 (s 0),.int .u32 (s 1),.int .u32 (s 2),.int .u32 (s 3),.int .u32 (s 4),.int .u32 (s 5),.int .u32 (s 6),.int .u32 (s 7)] 230)
 generalize (((w.alloc (.cells #[.int .u32 (s 0),.int .u32 (s 1),.int .u32 (s 2),.int .u32 (s 3),.int .u32 (s 4),.int .u32 (s 5),.int .u32 (s 6),.int .u32 (s 7)] 230)).alloc (.cells (Dg.bp 64 .u32 ws) 234)).alloc (.cells #[.int .u32 0,.int .u32 0,.int .u32 0,.int .u32 0,.int .u32 0,.int .u32 0,.int .u32 0,.int .u32 0] 230)).alloc (.cells #[.int .u32 (s 0),.int .u32 (s 1),.int .u32 (s 2),.int .u32 (s 3),.int .u32 (s 4),.int .u32 (s 5),.int .u32 (s 6),.int .u32 (s 7)] 230)=w0 at jb js j0 j1 j2 j3 ⊢
 have J0:Hid (w0.heap[w.heap.size]?=some (.cells (Dg.bp 8 .u32 s) 230 (0,0))):=j0
 have J2:Hid (w0.heap[w.heap.size+1+1]?=some (.cells #[.int .u32 0,.int .u32 0,.int .u32 0,.int .u32 0,.int .u32 0,.int .u32 0,.int .u32 0,.int .u32 0] 230 (0,0))):=j2
 have J3:Hid (w0.heap[w.heap.size+1+1+1]?=some (.cells (Dg.bp 8 .u32 (Dg.vH K s ws 0)) 230 (0,0))):=j3
 have JB:Hid (Below w.heap.size w w0):=jb
 clear j0 j2 j3 jb
 go_wp2_with (refine wpList_load_row rfl 234 (.tmp 3) rfl (w.heap.size+1) rfl _ _ _ _ j1 Tryz.underlying234 rfl (by rw[Dg.cH];kernel_rfl) ?_)
 have Uz:Hid (∀wr:World,Kb [w.heap.size+1+1+1] w0 wr→Below w.heap.size w wr):=fun wr h=>h.aK JB.out JB.out.size (by simp;omega)
 go_loopw [11] (fun i wr=>∃k:Nat,k≤64∧i=.int .i64 k∧wr.heap[w.heap.size+1+1+1]?=some (.cells (Dg.bp 8 .u32 (Dg.vH K s ws k)) 230 (0,0))∧Kb [w.heap.size+1+1+1] w0 wr) (fun i _=>64-(intOf i).toNat)
 case atStart=>exact⟨0,by omega,rfl,J3.out,Kb.refl _ _⟩
 case round=>
  obtain⟨k,hk,rfl,hv,fC⟩:=hrel
  have FE:Hid (Kb [w.heap.size+1+1+1] w0 wr):=fC
  have Xl:=lt_of_heap hv
  by_cases aC:k<64
  · have gG:Hid (Dg.vH K s ws (k+1)=Dg.Hj (Dg.vH K s ws k) ((ws k+K k)%4294967296)):=(rfl:Dg.vH K s ws (k+1)=_)
    generalize Dg.vH K s ws k=v at hv gG
    have v0:wr.cell? ⟨w.heap.size+1+1+1,0,none⟩=some (.int .u32 (v 0)):=Dg.aw hv (by decide)
    have v1:wr.cell? ⟨w.heap.size+1+1+1,1,none⟩=some (.int .u32 (v 1)):=Dg.aw hv (by decide)
    have v2:wr.cell? ⟨w.heap.size+1+1+1,2,none⟩=some (.int .u32 (v 2)):=Dg.aw hv (by decide)
    have v3:wr.cell? ⟨w.heap.size+1+1+1,3,none⟩=some (.int .u32 (v 3)):=Dg.aw hv (by decide)
    have v4:wr.cell? ⟨w.heap.size+1+1+1,4,none⟩=some (.int .u32 (v 4)):=Dg.aw hv (by decide)
    have v5:wr.cell? ⟨w.heap.size+1+1+1,5,none⟩=some (.int .u32 (v 5)):=Dg.aw hv (by decide)
    have v6:wr.cell? ⟨w.heap.size+1+1+1,6,none⟩=some (.int .u32 (v 6)):=Dg.aw hv (by decide)
    have v7:wr.cell? ⟨w.heap.size+1+1+1,7,none⟩=some (.int .u32 (v 7)):=Dg.aw hv (by decide)
    have g0:wr.cell? ⟨0,k,none⟩=some (.int .u32 (K k)):=by
     have hb:=Uz.out wr FE.out
     have h0:=HK.out k aC
     rw[hb.cell (block_lt_of_cell h0)]
     exact h0
    have hi:=hix wr k aC
    have OX:Hid (∀W:World,W.heap=wr.heap→Calls Tryz.prog 193 #[.agg #[.int .u32 (v 0),.int .u32 (v 1),.int .u32 (v 2),.int .u32 (v 3),.int .u32 (v 4),.int .u32 (v 5),.int .u32 (v 6),.int .u32 (v 7)],.int .u32 ((ws k+K k)%4294967296)] W fun e w2=>e=.returned (.agg #[.int .u32 (Dg.Hj v ((ws k+K k)%4294967296) 0),.int .u32 (Dg.Hj v ((ws k+K k)%4294967296) 1),.int .u32 (Dg.Hj v ((ws k+K k)%4294967296) 2),.int .u32 (Dg.Hj v ((ws k+K k)%4294967296) 3),.int .u32 (Dg.Hj v ((ws k+K k)%4294967296) 4),.int .u32 (Dg.Hj v ((ws k+K k)%4294967296) 5),.int .u32 (Dg.Hj v ((ws k+K k)%4294967296) 6),.int .u32 (Dg.Hj v ((ws k+K k)%4294967296) 7)])∧(w2.cell? ⟨w.heap.size+1+1+1,0,none⟩=some (.int .u32 (v 0))∧w2.cell? ⟨w.heap.size+1+1+1,1,none⟩=some (.int .u32 (v 1))∧w2.cell? ⟨w.heap.size+1+1+1,2,none⟩=some (.int .u32 (v 2))∧w2.cell? ⟨w.heap.size+1+1+1,3,none⟩=some (.int .u32 (v 3))∧w2.cell? ⟨w.heap.size+1+1+1,4,none⟩=some (.int .u32 (v 4))∧w2.cell? ⟨w.heap.size+1+1+1,5,none⟩=some (.int .u32 (v 5))∧w2.cell? ⟨w.heap.size+1+1+1,6,none⟩=some (.int .u32 (v 6))∧w2.cell? ⟨w.heap.size+1+1+1,7,none⟩=some (.int .u32 (v 7))∧w2.frozen? ⟨w.heap.size+1+1+1,0,none⟩=false∧w2.frozen? ⟨w.heap.size+1+1+1,1,none⟩=false∧w2.frozen? ⟨w.heap.size+1+1+1,2,none⟩=false∧w2.frozen? ⟨w.heap.size+1+1+1,3,none⟩=false∧w2.frozen? ⟨w.heap.size+1+1+1,4,none⟩=false∧w2.frozen? ⟨w.heap.size+1+1+1,5,none⟩=false∧w2.frozen? ⟨w.heap.size+1+1+1,6,none⟩=false∧w2.frozen? ⟨w.heap.size+1+1+1,7,none⟩=false)∧w.heap.size+1+1+1<w2.heap.size∧Hid (w2.heap[w.heap.size+1+1+1]?=some (.cells (Dg.bp 8 .u32 v) 230 (0,0))∧Below W.heap.size W w2)):=by
     intro W hW
     refine(KN v ((ws k+K k)%4294967296) W).mono ?_
     rintro e w2 ⟨rfl,hb⟩
     have vQ:w2.heap[w.heap.size+1+1+1]?=some (.cells (Dg.bp 8 .u32 v) 230 (0,0)):=by
      rw[hb.block _ (by rw[hW];exact Xl),hW]
      exact hv
     exact⟨rfl,⟨Dg.aw vQ (by decide),Dg.aw vQ (by decide),Dg.aw vQ (by decide),Dg.aw vQ (by decide),Dg.aw vQ (by decide),Dg.aw vQ (by decide),Dg.aw vQ (by decide),Dg.aw vQ (by decide),Dg.bh vQ _,Dg.bh vQ _,Dg.bh vQ _,Dg.bh vQ _,Dg.bh vQ _,Dg.bh vQ _,Dg.bh vQ _,Dg.bh vQ _⟩,lt_of_heap vQ,vQ,hb⟩
    generalize Dg.Hj v ((ws k+K k)%4294967296)=v' at OX gG
    clear hv fC
    go_upto_region 5 with fail
    go_region_with (go_at_call 193;refine(OX.out _ (by rfl)).mono ?_;rintro e w2 ⟨rfl,⟨c0,c1,c2,c3,c4,c5,c6,c7,f0,f1,f2,f3,f4,f5,f6,f7⟩,zv,Hg⟩)
    all_goals
     (have vQ:w2.heap[w.heap.size+1+1+1]?=some (.cells #[.int .u32 (v 0),.int .u32 (v 1),.int .u32 (v 2),.int .u32 (v 3),.int .u32 (v 4),.int .u32 (v 5),.int .u32 (v 6),.int .u32 (v 7)] 230 (0,0)):=Hg.out.1
      obtain⟨q1,q2⟩:=vT vQ (.int .u32 (v' 0)) (.int .u32 (v' 1)) (.int .u32 (v' 2)) (.int .u32 (v' 3)) (.int .u32 (v' 4)) (.int .u32 (v' 5)) (.int .u32 (v' 6)) (.int .u32 (v' 7))
      have HQ:Hid (Kb [w.heap.size+1+1+1] w0 w2):=(FE.out.drew).below Hg.out.2
      go_wp2_with fail
      go_roundw
      case rel=>exact⟨k+1,by omega,by go_num,by rw[gG.out];exact q1,HQ.out.trans q2⟩
      case measure=>simp[intOf];omega)
  · have ad6:k=64:=by omega
    subst ad6
    have HS:Hid (wr.heap[w.heap.size]?=some (.cells (Dg.bp 8 .u32 (Dg.iq K s ws 0)) 230 (0,0))):=by
     have h0:=FE.out.heap J0.out (by simp;omega)
     have e0:Dg.bp 8 .u32 (Dg.iq K s ws 0)=Dg.bp 8 .u32 s:=Dg.yE fun i hi=>by simp[Dg.iq]
     rw[e0]
     exact h0
    have HV:Hid (wr.heap[w.heap.size+1+1+1]?=some (.cells (Dg.bp 8 .u32 (Dg.vH K s ws 64)) 230 (0,0))):=hv
    have HZ:Hid (wr.heap[w.heap.size+1+1]?=some (.cells #[.int .u32 0,.int .u32 0,.int .u32 0,.int .u32 0,.int .u32 0,.int .u32 0,.int .u32 0,.int .u32 0] 230 (0,0))):=FE.out.heap J2.out (by simp only[List.mem_singleton];omega)
    clear hv fC
    obtain⟨wA,rfl⟩:∃x,x=wr:=⟨_,rfl⟩
    have PW:=lt_of_heap HV.out
    go_wp2_with fail
    go_loopw [23] (fun i wr=>∃k:Nat,k≤8∧i=.int .i64 k∧wr.heap[w.heap.size]?=some (.cells (Dg.bp 8 .u32 (Dg.iq K s ws k)) 230 (0,0))∧Kb [w.heap.size] wA wr) (fun i _=>8-(intOf i).toNat)
    case atStart=>exact⟨0,by omega,rfl,HS.out,Kb.refl _ _⟩
    case round=>
     obtain⟨k,hk,rfl,hs,fC⟩:=hrel
     have HKS:Hid (Kb [w.heap.size] wA wr):=fC
     have hv:wr.heap[w.heap.size+1+1+1]?=some (.cells (Dg.bp 8 .u32 (Dg.vH K s ws 64)) 230 (0,0)):=HKS.out.heap HV.out (by simp only[List.mem_singleton];omega)
     have hz:wr.heap[w.heap.size+1+1]?=some (.cells #[.int .u32 0,.int .u32 0,.int .u32 0,.int .u32 0,.int .u32 0,.int .u32 0,.int .u32 0,.int .u32 0] 230 (0,0)):=HKS.out.heap HZ.out (by simp only[List.mem_singleton];omega)
     have Qq:=lt_of_heap hs
     have hl3:=lt_of_heap hv
     have zv:=lt_of_heap hz
     by_cases aC:k<8
     · have a0:=Dg.aw hs aC
       have a1:=Dg.aw hv aC
       have a2:=Dg.bh hs k
       have eo:Hid ((wr.drew.setCell ⟨w.heap.size,k,none⟩ (.int .u32 ((Dg.iq K s ws k k+Dg.vH K s ws 64 k)%4294967296))).heap[w.heap.size]?=some (.cells (Dg.bp 8 .u32 (Dg.iq K s ws (k+1))) 230 (0,0))∧Kb [w.heap.size] wA (wr.drew.setCell ⟨w.heap.size,k,none⟩ (.int .u32 ((Dg.iq K s ws k k+Dg.vH K s ws 64 k)%4294967296)))):=by
        refine⟨?_,HKS.out.drew.trans (Kb.setCell wr.drew ⟨w.heap.size,k,none⟩ _)⟩
        rw[Dg.po (w:=wr.drew) hs aC]
        rw[Dg.yE (g:=Dg.iq K s ws (k+1))]
        intro i hi
        unfold Dg.lk Dg.iq
        by_cases e:i=k
        · subst e;simp
        · have e2:i<k+1↔i<k:=by omega
          simp[e,e2]
       clear hs hv hz fC
       go_upto_region 10 with fail
       go_region
       all_goals
        (go_wp2_with fail
         go_roundw
         case rel=>exact⟨k+1,by omega,by go_num,eo.out.1,eo.out.2⟩
         case measure=>simp[intOf];omega)
     · have hk8:k=8:=by omega
       subst hk8
       have c0:wr.cell? ⟨w.heap.size,0,none⟩=some (.int .u32 (Dg.iq K s ws 8 0)):=Dg.aw hs (by decide)
       have c1:wr.cell? ⟨w.heap.size,1,none⟩=some (.int .u32 (Dg.iq K s ws 8 1)):=Dg.aw hs (by decide)
       have c2:wr.cell? ⟨w.heap.size,2,none⟩=some (.int .u32 (Dg.iq K s ws 8 2)):=Dg.aw hs (by decide)
       have c3:wr.cell? ⟨w.heap.size,3,none⟩=some (.int .u32 (Dg.iq K s ws 8 3)):=Dg.aw hs (by decide)
       have c4:wr.cell? ⟨w.heap.size,4,none⟩=some (.int .u32 (Dg.iq K s ws 8 4)):=Dg.aw hs (by decide)
       have c5:wr.cell? ⟨w.heap.size,5,none⟩=some (.int .u32 (Dg.iq K s ws 8 5)):=Dg.aw hs (by decide)
       have c6:wr.cell? ⟨w.heap.size,6,none⟩=some (.int .u32 (Dg.iq K s ws 8 6)):=Dg.aw hs (by decide)
       have c7:wr.cell? ⟨w.heap.size,7,none⟩=some (.int .u32 (Dg.iq K s ws 8 7)):=Dg.aw hs (by decide)
       have z0:wr.cell? ⟨w.heap.size+1+1,0,none⟩=some (.int .u32 0):=by rw[cell_of_row _ _ _ _ _ _ hz];rfl
       have z1:wr.cell? ⟨w.heap.size+1+1,1,none⟩=some (.int .u32 0):=by rw[cell_of_row _ _ _ _ _ _ hz];rfl
       have z2:wr.cell? ⟨w.heap.size+1+1,2,none⟩=some (.int .u32 0):=by rw[cell_of_row _ _ _ _ _ _ hz];rfl
       have z3:wr.cell? ⟨w.heap.size+1+1,3,none⟩=some (.int .u32 0):=by rw[cell_of_row _ _ _ _ _ _ hz];rfl
       have z4:wr.cell? ⟨w.heap.size+1+1,4,none⟩=some (.int .u32 0):=by rw[cell_of_row _ _ _ _ _ _ hz];rfl
       have z5:wr.cell? ⟨w.heap.size+1+1,5,none⟩=some (.int .u32 0):=by rw[cell_of_row _ _ _ _ _ _ hz];rfl
       have z6:wr.cell? ⟨w.heap.size+1+1,6,none⟩=some (.int .u32 0):=by rw[cell_of_row _ _ _ _ _ _ hz];rfl
       have z7:wr.cell? ⟨w.heap.size+1+1,7,none⟩=some (.int .u32 0):=by rw[cell_of_row _ _ _ _ _ _ hz];rfl
       have f0:wr.frozen? ⟨w.heap.size+1+1,0,none⟩=false:=Dg.bh hz 0
       have f1:wr.frozen? ⟨w.heap.size+1+1,1,none⟩=false:=Dg.bh hz 1
       have f2:wr.frozen? ⟨w.heap.size+1+1,2,none⟩=false:=Dg.bh hz 2
       have f3:wr.frozen? ⟨w.heap.size+1+1,3,none⟩=false:=Dg.bh hz 3
       have f4:wr.frozen? ⟨w.heap.size+1+1,4,none⟩=false:=Dg.bh hz 4
       have f5:wr.frozen? ⟨w.heap.size+1+1,5,none⟩=false:=Dg.bh hz 5
       have f6:wr.frozen? ⟨w.heap.size+1+1,6,none⟩=false:=Dg.bh hz 6
       have f7:wr.frozen? ⟨w.heap.size+1+1,7,none⟩=false:=Dg.bh hz 7
       obtain⟨q1,q2⟩:=vT hz (.int .u32 (Dg.iq K s ws 8 0)) (.int .u32 (Dg.iq K s ws 8 1)) (.int .u32 (Dg.iq K s ws 8 2)) (.int .u32 (Dg.iq K s ws 8 3)) (.int .u32 (Dg.iq K s ws 8 4)) (.int .u32 (Dg.iq K s ws 8 5)) (.int .u32 (Dg.iq K s ws 8 6)) (.int .u32 (Dg.iq K s ws 8 7))
       have dU:Below w.heap.size w wr:=HKS.out.aK (Uz.out wA FE.out) (by omega) (by simp)
       have HQ1:Hid _:=q1
       have HQ2:Hid _:=q2.aK dU dU.size (by simp;omega)
       generalize Dg.iq K s ws 8=f at c0 c1 c2 c3 c4 c5 c6 c7 HQ1 HQ2 HE
       clear hs hv hz fC q1 q2 dU
       go_wp2_with fail
       refine bodyPost_ret (v:=.agg (Dg.zw f)) ?_ rfl ⟨by rw[HE.out],HQ2.out⟩
       exact results_cell_row rfl _ _ _ _ _ _ _ rfl HQ1.out Tryz.underlying230 rfl (by kernel_rfl)
end
/- Package digest: schedule. -/
section
open Go.RowKit
namespace Dg
def Mz(a:Int):Int:=bits .xor .u32 (bits .xor .u32 (turn a 7) (turn a 18)) (a/8)
def Pn(a:Int):Int:=bits .xor .u32 (bits .xor .u32 (turn a 17) (turn a 19)) (a/1024)
def bJ(bf:Nat→Int):Nat→Nat→Int
 | 0=>fun _=>0
 | k+1=>lk (bJ bf k) k (if k<16 then word (bf (4*k)) (bf (4*k+1)) (bf (4*k+2)) (bf (4*k+3))else (bJ bf k (k-16)+Mz (bJ bf k (k-15))+bJ bf k (k-7)+Pn (bJ bf k (k-2)))%4294967296)
def sched:(Nat→Int)→Nat→Int:=shut fun bf=>bJ bf 64
theorem Uk:bp 64 .u32 (fun _=>0)=#[.int .u32 0,.int .u32 0,.int .u32 0,.int .u32 0,.int .u32 0,.int .u32 0,.int .u32 0,.int .u32 0,.int .u32 0,.int .u32 0,.int .u32 0,.int .u32 0,.int .u32 0,.int .u32 0,.int .u32 0,.int .u32 0,.int .u32 0,.int .u32 0,.int .u32 0,.int .u32 0,.int .u32 0,.int .u32 0,.int .u32 0,.int .u32 0,.int .u32 0,.int .u32 0,.int .u32 0,.int .u32 0,.int .u32 0,.int .u32 0,.int .u32 0,.int .u32 0,.int .u32 0,.int .u32 0,.int .u32 0,.int .u32 0,.int .u32 0,.int .u32 0,.int .u32 0,.int .u32 0,.int .u32 0,.int .u32 0,.int .u32 0,.int .u32 0,.int .u32 0,.int .u32 0,.int .u32 0,.int .u32 0,.int .u32 0,.int .u32 0,.int .u32 0,.int .u32 0,.int .u32 0,.int .u32 0,.int .u32 0,.int .u32 0,.int .u32 0,.int .u32 0,.int .u32 0,.int .u32 0,.int .u32 0,.int .u32 0,.int .u32 0,.int .u32 0]:=rfl
end Dg
theorem Ly(w:World)(g o c:Nat)(bf:Nat→Int)(hc:64≤c)(dt:∀j,j<64→w.cell? ⟨g,o+j,none⟩=some (.int .u8 (bf j))):
 Calls Tryz.prog 120 #[.slice (some ⟨g,o,none⟩) 64 c] w fun e w'=>e=.returned (.agg (Dg.bp 64 .u32 (Dg.sched bf)))∧Below w.heap.size w w':=by
 have HE:Hid (Dg.sched bf=Dg.bJ bf 64):=by
  have:Dg.sched bf=Dg.bJ bf 64:=by unfold Dg.sched;rw[Dg.jm]
  exact this
 have HC:Hid (∀j,j<64→w.cell? ⟨g,o+j,none⟩=some (.int .u8 (bf j))):=dt
 have mh:g<w.heap.size:=block_lt_of_cell (dt 0 (by decide))
 clear dt
 go_enter Tryz.func120,Tryz.ntmps120
 go_upto_region 2 with fail
 rw[←Dg.Uk]
 have j0:=heap_alloc2_old w (.cells (Dg.bp 64 .u32 (fun _=>0)) 234) (.cells (Dg.bp 64 .u32 (fun _=>0)) 234)
 have j1:=heap_alloc2_new w (.cells (Dg.bp 64 .u32 (fun _=>0)) 234) (.cells (Dg.bp 64 .u32 (fun _=>0)) 234)
 have jb:Below w.heap.size w ((w.alloc (.cells (Dg.bp 64 .u32 (fun _=>0)) 234)).alloc (.cells (Dg.bp 64 .u32 (fun _=>0)) 234)):=((Below.refl _ _).alloc (Nat.le_refl _) _).alloc (by simp) _
 generalize (w.alloc (.cells (Dg.bp 64 .u32 (fun _=>0)) 234)).alloc (.cells (Dg.bp 64 .u32 (fun _=>0)) 234)=w0 at j0 j1 jb ⊢
 have J0:Hid (w0.heap[w.heap.size]?=some (.cells (Dg.bp 64 .u32 (fun _=>0)) 234 (0,0))):=j0
 have J1:Hid (w0.heap[w.heap.size+1]?=some (.cells (Dg.bp 64 .u32 (Dg.bJ bf 0)) 234 (0,0))):=j1
 have JB:Hid (Below w.heap.size w w0):=jb
 have hB:Hid (∀wr:World,Kb [w.heap.size+1] w0 wr→Below w.heap.size w wr):=fun wr h=>h.aK JB.out JB.out.size (by simp)
 clear j0 j1 jb
 go_wp2_with fail
 go_loopw [10] (fun i wr=>∃k:Nat,k≤16∧i=.int .i64 k∧wr.heap[w.heap.size+1]?=some (.cells (Dg.bp 64 .u32 (Dg.bJ bf k)) 234 (0,0))∧Kb [w.heap.size+1] w0 wr) (fun i _=>16-(intOf i).toNat)
 case atStart=>exact⟨0,by omega,rfl,J1.out,Kb.refl _ _⟩
 case round=>
  obtain⟨k,hk,rfl,hv,fC⟩:=hrel
  have FE:Hid (Kb [w.heap.size+1] w0 wr):=fC
  have FD:=lt_of_heap hv
  have C2:Hid (Below w.heap.size w wr):=hB.out wr fC
  by_cases aC:k<16
  · have vE:∀(W:World),W.heap=wr.heap→∀j,j<64→W.cell? ⟨g,o+j,none⟩=some (.int .u8 (bf j)):=fun W hW j hj=>by
     have e:W.cell? ⟨g,o+j,none⟩=wr.cell? ⟨g,o+j,none⟩:=World.cell?_of_block (by rw[hW])
     rw[e,C2.out.cell mh]
     exact HC.out j hj
    have SV:Hid (Calls Tryz.prog 194 #[.slice (some ⟨g,o+4*k,none⟩) (64-4*k) (c-4*k)] wr fun e w2=>e=.returned (.int .u32 (Dg.word (bf (4*k)) (bf (4*k+1)) (bf (4*k+2)) (bf (4*k+3))))∧∃m,w2=wr.drewN m):=JR wr g (o+4*k) (64-4*k) (c-4*k) _ _ _ _ (by omega) (vE wr rfl (4*k) (by omega)) (by rw[Nat.add_assoc];exact vE wr rfl (4*k+1) (by omega)) (by rw[Nat.add_assoc];exact vE wr rfl (4*k+2) (by omega)) (by rw[Nat.add_assoc];exact vE wr rfl (4*k+3) (by omega))
    have gG:Hid (Dg.bJ bf (k+1)=Dg.lk (Dg.bJ bf k) k (Dg.word (bf (4*k)) (bf (4*k+1)) (bf (4*k+2)) (bf (4*k+3)))):=by
     have:Dg.bJ bf (k+1)=Dg.lk (Dg.bJ bf k) k (Dg.word (bf (4*k)) (bf (4*k+1)) (bf (4*k+2)) (bf (4*k+3))):=by
      rw[Dg.bJ,if_pos aC]
     exact this
    generalize Dg.word (bf (4*k)) (bf (4*k+1)) (bf (4*k+2)) (bf (4*k+3))=wd at SV gG
    have a0:=Dg.aw hv (show k<64 by omega)
    have a2:=Dg.bh hv k
    have eo:Hid (∀m:Nat,((wr.drewN m).setCell ⟨w.heap.size+1,k,none⟩ (.int .u32 wd)).heap[w.heap.size+1]?=some (.cells (Dg.bp 64 .u32 (Dg.bJ bf (k+1))) 234 (0,0))∧Kb [w.heap.size+1] w0 ((wr.drewN m).setCell ⟨w.heap.size+1,k,none⟩ (.int .u32 wd))):=by
     intro m
     refine⟨by rw[Dg.po (w:=wr.drewN m) hv (by omega),gG.out], ?_⟩
     exact(FE.out.drewN m).trans (Kb.setCell (wr.drewN m) ⟨w.heap.size+1,k,none⟩ _)
    clear hv fC vE
    go_wp2_with (go_at_call 194;refine SV.out.mono ?_;rintro e w2 ⟨rfl,m,rfl⟩)
    go_roundw
    case rel=>exact⟨k+1,by omega,by go_num,(eo.out _).1,(eo.out _).2⟩
    case measure=>simp[intOf];omega
  · have HV:Hid (wr.heap[w.heap.size+1]?=some (.cells (Dg.bp 64 .u32 (Dg.bJ bf 16)) 234 (0,0))):=by
     have aba:k=16:=by omega
     rw[aba]at hv
     exact hv
    clear hv fC
    obtain⟨wA,rfl⟩:∃x,x=wr:=⟨_,rfl⟩
    go_wp2_with fail
    go_loopw [5] (fun i wr=>∃m:Nat,m≤48∧i=.int .i64 ((m:Int)+16)∧wr.heap[w.heap.size+1]?=some (.cells (Dg.bp 64 .u32 (Dg.bJ bf (m+16))) 234 (0,0))∧Kb [w.heap.size+1] w0 wr) (fun i _=>64-(intOf i).toNat)
    case atStart=>exact⟨0,by omega,rfl,HV.out,FE.out⟩
    case round=>
     obtain⟨m,hm,rfl,hv,fC⟩:=hrel
     have Ec:Hid (Kb [w.heap.size+1] w0 wr):=fC
     have FD:=lt_of_heap hv
     by_cases aC:m<48
     · have c0:=Dg.aw hv (show m<64 by omega)
       have c1:=Dg.aw hv (show m+1<64 by omega)
       have c9:=Dg.aw hv (show m+9<64 by omega)
       have I6:=Dg.aw hv (show m+14<64 by omega)
       have c16:=Dg.aw hv (show m+16<64 by omega)
       have f16:=Dg.bh hv (m+16)
       have gG:Hid (Dg.bJ bf (m+1+16)=Dg.lk (Dg.bJ bf (m+16)) (m+16) ((Dg.bJ bf (m+16) m+Dg.Mz (Dg.bJ bf (m+16) (m+1))+Dg.bJ bf (m+16) (m+9)+Dg.Pn (Dg.bJ bf (m+16) (m+14)))%4294967296)):=by
        have:Dg.bJ bf (m+1+16)=Dg.lk (Dg.bJ bf (m+16)) (m+16) ((Dg.bJ bf (m+16) m+Dg.Mz (Dg.bJ bf (m+16) (m+1))+Dg.bJ bf (m+16) (m+9)+Dg.Pn (Dg.bJ bf (m+16) (m+14)))%4294967296):=by
         rw[show m+1+16=(m+16)+1 by omega,Dg.bJ,if_neg (by omega),show m+16-16=m by omega,show m+16-15=m+1 by omega,show m+16-7=m+9 by omega,show m+16-2=m+14 by omega]
        exact this
       have eo:Hid (∀(n:Nat) (W:World),W.heap=wr.heap→Kb [w.heap.size+1] w0 W→(W.setCell ⟨w.heap.size+1,m+16,none⟩ (.int .u32 ((Dg.bJ bf (m+16) m+Dg.Mz (Dg.bJ bf (m+16) (m+1))+Dg.bJ bf (m+16) (m+9)+Dg.Pn (Dg.bJ bf (m+16) (m+14)))%4294967296))).heap[w.heap.size+1]?=some (.cells (Dg.bp 64 .u32 (Dg.bJ bf (m+1+16))) 234 (0,0))∧Kb [w.heap.size+1] w0 (W.setCell ⟨w.heap.size+1,m+16,none⟩ (.int .u32 ((Dg.bJ bf (m+16) m+Dg.Mz (Dg.bJ bf (m+16) (m+1))+Dg.bJ bf (m+16) (m+9)+Dg.Pn (Dg.bJ bf (m+16) (m+14)))%4294967296)))):=by
        intro n W hW hkW
        exact⟨by rw[Dg.po (w:=W) (by rw[hW];exact hv) (by omega),gG.out],hkW.trans (Kb.setCell W ⟨w.heap.size+1,m+16,none⟩ _)⟩
       have ht:=fun x b w=>E7 x b w
       clear hv fC
       go_upto_region 10 with fail
       go_quiet (fail)
       go_upto_region 13 with(go_at_call 195;refine(ht _ _ _).mono ?_;rintro e w' ⟨rfl,rfl⟩)
       go_region
       all_goals
        (go_wp2_with fail
         go_roundw
         case rel=>
          refine⟨m+1,by omega,by go_num,(eo.out 0 _ ?_ ?_).1,(eo.out 0 _ ?_ ?_).2⟩
          · rfl
          · exact⟨Ec.out.os,Ec.out.tape,Ec.out.output,Ec.out.size,Ec.out.block⟩
          · rfl
          · exact⟨Ec.out.os,Ec.out.tape,Ec.out.output,Ec.out.size,Ec.out.block⟩
         case measure=>simp[intOf];omega)
     · have hz:wr.heap[w.heap.size]?=some (.cells (Dg.bp 64 .u32 (fun _=>0)) 234 (0,0)):=Ec.out.heap J0.out (by simp only[List.mem_singleton];omega)
       have dU:Hid (Below w.heap.size w (wr.setRow w.heap.size (Dg.bp 64 .u32 (Dg.bJ bf 64)))):=(Kb.setRow wr w.heap.size _).aK (hB.out wr Ec.out) (hB.out wr Ec.out).size (by simp)
       have bV:Hid ((wr.setRow w.heap.size (Dg.bp 64 .u32 (Dg.bJ bf 64))).heap[w.heap.size]?=some (.cells (Dg.bp 64 .u32 (Dg.bJ bf 64)) 234 (0,0))):=bq wr w.heap.size _ hz
       have XO:wr.heap[w.heap.size+1]?=some (.cells (Dg.bp 64 .u32 (Dg.bJ bf 64)) 234 (0,0)):=by
        have acF:m=48:=by omega
        rw[acF]at hv
        exact hv
       generalize Dg.bJ bf 64=f at XO HE dU bV
       clear hv fC
       go_wp2_with (first | (refine wpList_load_row rfl 234 (.tmp 3) rfl (w.heap.size+1) rfl _ _ _ _ XO Tryz.underlying234 rfl (by rw[Dg.cH];kernel_rfl) ?_) | (refine wpList_store_row rfl 234 (.tmp 2) (.tmp 64) rfl w.heap.size rfl (Dg.bp 64 .u32 f) rfl _ _ hz (by rw[Dg.cH,Dg.cH]) (by rw[Dg.cH];kernel_rfl) (Dg.yo _ _ _) ?_))
       refine bodyPost_ret (v:=.agg (Dg.bp 64 .u32 f)) ?_ rfl ⟨by rw[HE.out],dU.out⟩
       exact results_cell_row rfl _ _ _ _ _ _ _ rfl bV.out Tryz.underlying234 rfl (by rw[Dg.cH];kernel_rfl)
end
/- Package digest: a word written as four bytes. -/
section
open Go.RowKit
namespace Dg
def YZ(word:Int)(k:Nat):Int:=word/2^(24-8*k)%256
def byte:Int→Nat→Int:=shut YZ
def mg(f:Nat→Int)(o:Nat)(word:Int)(k:Nat):Nat→Int:=fun j=>if o≤j∧j<o+k then byte word (j-o)else f j
theorem Kv(f:Nat→Int)(o:Nat)(word:Int):mg f o word 0=f:=by
 funext j
 unfold mg
 rw[if_neg (by omega)]
theorem JS(f:Nat→Int)(o:Nat)(word:Int)(k:Nat):mg f o word (k+1)=lk (mg f o word k) (o+k) (byte word k):=by
 funext j
 unfold mg lk
 by_cases e:j=o+k
 · subst e
   rw[if_pos (by omega),if_pos rfl,show o+k-o=k by omega]
 · have e2:(o≤j∧j<o+(k+1))↔(o≤j∧j<o+k):=by omega
   simp only[if_neg e,e2]
end Dg
theorem oC(w:World)(g o n c m:Nat)(T:TypeId)(f:Nat→Int)(word:Int)(hn:4≤n)(hm:o+4≤m)(hg:w.heap[g]?=some (.cells (Dg.bp m .u8 f) T (0,0))):
 Calls Tryz.prog 121 #[.slice (some ⟨g,o,none⟩) n c,.int .u32 word] w fun e w'=>e=.returned (.tuple #[])∧w'.heap[g]?=some (.cells (Dg.bp m .u8 (Dg.mg f o word 4)) T (0,0))∧Kb [g] w w':=by
 have HG:Hid (w.heap[g]?=some (.cells (Dg.bp m .u8 (Dg.mg f o word 0)) T (0,0))):=by
  rw[Dg.Kv];exact hg
 clear hg
 go_enter Tryz.func121,Tryz.ntmps121
 go_wp2_with fail
 go_loopw [5] (fun i wr=>∃k:Nat,k≤4∧i=.int .i64 k∧wr.heap[g]?=some (.cells (Dg.bp m .u8 (Dg.mg f o word k)) T (0,0))∧Kb [g] w wr) (fun i _=>4-(intOf i).toNat)
 case atStart=>exact⟨0,by omega,rfl,HG.out,Kb.refl _ _⟩
 case round=>
  obtain⟨k,hk,rfl,hv,fC⟩:=hrel
  have FE:Hid (Kb [g] w wr):=fC
  have HV:Hid (wr.heap[g]?=some (.cells (Dg.bp m .u8 (Dg.mg f o word k)) T (0,0))):=hv
  have hl:=lt_of_heap hv
  by_cases aC:k<4
  · have a0:=Dg.aw hv (show o+k<m by omega)
    have a1:=Dg.bh hv (o+k)
    have h0:(0:Int)≤24-8*(k:Int):=by omega
    have vo:Hid ((wr.setCell ⟨g,o+k,none⟩ (.int .u8 (word/2^(24-8*k)%256))).heap[g]?=some (.cells (Dg.bp m .u8 (Dg.mg f o word (k+1))) T (0,0))∧Kb [g] w (wr.setCell ⟨g,o+k,none⟩ (.int .u8 (word/2^(24-8*k)%256)))):=by
     have e:Dg.byte word k=word/2^(24-8*k)%256:=by unfold Dg.byte;rw[Dg.jm];rfl
     refine⟨?_,FE.out.trans (Kb.setCell wr ⟨g,o+k,none⟩ _)⟩
     rw[Dg.po hv (by omega),Dg.JS,e]
    clear hv fC
    go_wp2_with fail
    go_roundw
    case rel=>exact⟨k+1,by omega,by go_num,vo.out.1,vo.out.2⟩
    case measure=>simp[intOf];omega
  · have HE:Hid (wr.heap[g]?=some (.cells (Dg.bp m .u8 (Dg.mg f o word 4)) T (0,0))):=by
     have hk4:k=4:=by omega
     rw[hk4]at hv
     exact hv
    clear hv fC
    go_wp2_with fail
    go_end0
    exact⟨rfl,HE.out,FE.out⟩
end
end Go.Proofs.YtdmicblafmhflaaGreatDoor
