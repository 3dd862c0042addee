/- Package digest: Of. -/
import Derived.Test.YtdmicblafmhflaaGreatDoorC31
import Derived.Deep.CutBlock
import Derived.Test.YtdmicblafmhflaaGreatDoorC29
import Derived.Deep.RegionLaw
import Derived.Deep.RegionHeld3
set_option linter.unusedSimpArgs false
set_option linter.unusedVariables false
set_option maxHeartbeats 2000000
set_option maxRecDepth 100000
namespace Go.Proofs.YtdmicblafmhflaaGreatDoor
section
open Go.RowKit
namespace Dg
def iv(i:Nat):Int:=match i with | 0=>1779033703 | 1=>3144134277 | 2=>1013904242 | 3=>2773480762 | 4=>1359893119 | 5=>2600822924 | 6=>528734635 | _=>1541459225
theorem Fk:bw 32 .u8 (fun _=>0)=#[.int .u8 0,.int .u8 0,.int .u8 0,.int .u8 0,.int .u8 0,.int .u8 0,.int .u8 0,.int .u8 0,.int .u8 0,.int .u8 0,.int .u8 0,.int .u8 0,.int .u8 0,.int .u8 0,.int .u8 0,.int .u8 0,.int .u8 0,.int .u8 0,.int .u8 0,.int .u8 0,.int .u8 0,.int .u8 0,.int .u8 0,.int .u8 0,.int .u8 0,.int .u8 0,.int .u8 0,.int .u8 0,.int .u8 0,.int .u8 0,.int .u8 0,.int .u8 0]:=rfl
def adp(u:Value):Int:=match u with | .int _ v=>v | _=>0
def nu(s:ByteArray)(j:Nat):Int:=adp ((xr s).getD j (.int .u8 0))
theorem PN(s:ByteArray):∀u,u∈xr s→∃v,u=.int .u8 v:=by
 intro u hu
 unfold xr byteCells lG bw at hu
 simp only[List.append_assoc,List.mem_append,List.mem_map,List.mem_cons,List.not_mem_nil,or_false,List.toList_toArray]at hu
 rcases hu with⟨b,_,rfl⟩ | rfl | hu | ⟨i,_,rfl⟩
 · exact⟨_,rfl⟩
 · exact⟨_,rfl⟩
 · rw[List.eq_of_mem_replicate hu];exact⟨_,rfl⟩
 · exact⟨_,rfl⟩
theorem Ob(s:ByteArray){j:Nat}(h:j<(xr s).length):(xr s)[j]?=some (.int .u8 (nu s j)):=by
 obtain⟨v,hv⟩:=PN s _ (List.getElem_mem h)
 have e:nu s j=v:=by
  unfold nu
  rw[List.getD_eq_getElem?_getD,List.getElem?_eq_getElem h,hv]
  rfl
 rw[List.getElem?_eq_getElem h,hv,e]
theorem Nt(s:ByteArray):(xr s).length=s.size+1+zc s.size+8:=by
 unfold xr lG
 simp[byteCells,cI]
 omega
def blocks(s:ByteArray):Nat:=(s.size+1+zc s.size+8)/64
theorem vX(s:ByteArray):(xr s).length=64*blocks s:=by
 rw[Nt]
 have:=(GV s.size).1
 unfold blocks
 omega
def hash(K:Nat→Int)(s:ByteArray):Nat→Nat→Int
 | 0=>iv
 | n+1=>behind K (hash K s n) (sched fun j=>nu s (64*n+j))
def mX(h:Nat→Int):Nat→Nat→Int
 | 0=>fun _=>0
 | k+1=>mF (mX h k) (4*k) (h k) 4
def Lq:(Nat→Int)→ByteArray→Nat→Int:=shut fun K s=>mX (hash K s (blocks s)) 8
end Dg
theorem II(w:World):Calls Tryz.prog 117 #[] w fun e w'=>e=.returned (.agg (Dg.yP Dg.iv))∧Below w.heap.size w w':=by
 go_enter Tryz.func117,Tryz.ntmps117
 go_wp2_with fail
 refine bodyPost_ret (v:=.agg (Dg.yP Dg.iv)) ?_ rfl ⟨rfl,(Below.refl _ _).alloc (Nat.le_refl _) _⟩
 exact results_cell_row rfl _ _ _ _ _ _ _ rfl (heap_alloc_new w _) Tryz.underlying230 rfl (by kernel_rfl)
theorem KN(W:World)(g k:Nat)(h:k<8):(Instr.sliceAt 105 (.pointer (some ⟨g,0,none⟩)) (some (.int .i64 (4*(k:Int)))) none none).run Tryz.prog W=.ok (.slice (some ⟨g,4*k,none⟩) (32-4*k) (32-4*k)) W:=by
 have h3:(0:Int)≤4*(k:Int):=by omega
 have e2:(4*(k:Int)).toNat=4*k:=by omega
 have h4:4*(k:Int)≤32:=by omega
 have h5:¬32=4*k:=by omega
 have ef:(⟨g,0,none⟩:Addr).add (4*k)=⟨g,4*k,none⟩:=by unfold Addr.add;split<;>simp_all
 have hu:=run_underlying Tryz.underlying105 W
 have cR:=Tryz.sizeOf5 W
 unfold Instr.sliceAt
 simp[hu,Instr.sureAddr,Instr.sliceBounds,Instr.sliceBound,asIntOf,h3,e2,h4,h5,cR,ef]
theorem Tp(K:Nat→Int)(s:ByteArray)(w:World)(hK:Dg.AR w K)(hs:s.size≤100000000000):Calls Tryz.prog 60 #[.string s] w fun e w'=>e=.returned (.agg (Dg.bw 32 .u8 (Dg.Lq K s)))∧Below w.heap.size w w':=by
 have HE:Hid (Dg.Lq K s=Dg.mX (Dg.hash K s (Dg.blocks s)) 8):=by
  have:Dg.Lq K s=Dg.mX (Dg.hash K s (Dg.blocks s)) 8:=by unfold Dg.Lq;rw[Dg.ji]
  exact this
 have HK:Hid (Dg.AR w K):=hK
 clear hK
 obtain⟨w0,db⟩:∃w0,w0=w.alloc (.cells (Dg.bw 32 .u8 (fun _=>0)) 105):=⟨_,rfl⟩
 have bU:Below w.heap.size w w0:=by rw[db];exact(Below.refl _ _).alloc (Nat.le_refl _) _
 have ew:w0.heap[w.heap.size]?=some (.cells (Dg.bw 32 .u8 (fun _=>0)) 105 (0,0)):=by rw[db];exact heap_alloc_new w _
 have eL:=II w0
 have e8:Dg.yP Dg.iv=#[.int .u32 (Dg.iv 0),.int .u32 (Dg.iv 1),.int .u32 (Dg.iv 2),.int .u32 (Dg.iv 3),.int .u32 (Dg.iv 4),.int .u32 (Dg.iv 5),.int .u32 (Dg.iv 6),.int .u32 (Dg.iv 7)]:=rfl
 rw[e8]at eL
 go_enter Tryz.func60,Tryz.ntmps60
 go_upto_region 1 with fail
 rw[←Dg.Fk,←db]
 clear db e8
 go_upto_region 2 with(go_at_call 117;refine eL.mono ?_;rintro e w1 ⟨rfl,bq⟩)
 have NQ:Hid (∀W:World,Calls Tryz.prog 118 #[.string s] W fun e w2=>∃g cap,e=.returned (.slice (some ⟨g,0,none⟩) (64*Dg.blocks s) cap)∧64*Dg.blocks s≤cap∧g<w2.heap.size∧Hid (∀j,j<64*Dg.blocks s→w2.cell? ⟨g,j,none⟩=some (.int .u8 (Dg.nu s j)))∧Hid (Below W.heap.size W w2)∧W.heap.size≤g):=by
  intro W
  refine(PL W s hs).mono ?_
  rintro e w2 ⟨v,n,rfl,bF,hb⟩
  have hn:n=64*Dg.blocks s:=by rw[←bF.1,Dg.vX]
  subst hn
  obtain⟨g,cap,rfl,hB,mO,ll,dk⟩:=bF.lt
  exact⟨g,cap,rfl,ll,mO,fun j hj=>dk j _ (Dg.Ob s (by rw[Dg.vX];exact hj)),hb,hB⟩
 have lh:Hid (Below w.heap.size w w1):=bU.trans (bq.mono bU.size)
 have Xx:Hid (w1.heap[w.heap.size]?=some (.cells (Dg.bw 32 .u8 (fun _=>0)) 105 (0,0))):=by
  rw[bq.block _ (lt_of_heap ew)]
  exact ew
 have ff:Dg.blocks s≤10000000000:=by unfold Dg.blocks Dg.zc;omega
 clear eL bU ew bq
 go_upto_region 3 with(go_at_call 118;refine(NQ.out _).mono ?_;rintro e w2 ⟨g,cap,rfl,ll,mO,HC,pG,F6⟩)
 rw[World.size_alloc]at F6
 have HH:Hid (w2.heap[w1.heap.size]?=some (.cells (Dg.bw 8 .u32 (Dg.hash K s 0)) 230 (0,0))):=by
  rw[pG.out.block _ (by simp)]
  exact heap_alloc_new w1 _
 have Wc:Hid (w2.heap[w.heap.size]?=some (.cells (Dg.bw 32 .u8 (fun _=>0)) 105 (0,0))):=by
  have aG:=lt_of_heap Xx.out
  rw[pG.out.block _ (by simp;omega),Below.heap_alloc _ _ _ aG]
  exact Xx.out
 have xS:Hid (Below w.heap.size w w2):=(lh.out.alloc lh.out.size _).trans (pG.out.mono (by have:=lh.out.size;simp;omega))
 have hws:w.heap.size≤w1.heap.size:=lh.out.size
 have qa:w.heap.size≠w1.heap.size:=by have:=lt_of_heap Xx.out;omega
 generalize hBB:Dg.blocks s=B at ll HC ff HE
 clear hBB NQ
 go_wp2_with fail
 go_loopw [5] (fun i wr=>∃n p:Nat,p=64*n∧n≤B∧i=.int .i64 p∧wr.heap[w1.heap.size]?=some (.cells (Dg.bw 8 .u32 (Dg.hash K s n)) 230 (0,0))∧Kb [w1.heap.size] w2 wr) (fun i _=>64*B-(intOf i).toNat)
 case atStart=>exact⟨0,0,rfl,Nat.zero_le _,rfl,HH.out,Kb.refl _ _⟩
 case round=>
  obtain⟨n,p,hp,hn,rfl,hv,fK⟩:=hrel
  have HP:Hid (p=64*n):=hp
  have EG:Hid (Kb [w1.heap.size] w2 wr):=fK
  have Wm:=lt_of_heap hv
  have HBR:Hid (Below w.heap.size w wr):=fK.aU xS.out xS.out.size (by simp;omega)
  by_cases aG:n<B
  · have eX:Hid (Dg.hash K s (n+1)=Dg.behind K (Dg.hash K s n) (Dg.sched fun j=>Dg.nu s (64*n+j))):=(rfl:Dg.hash K s (n+1)=_)
    generalize Dg.hash K s n=h at hv eX
    have c0:wr.cell? ⟨w1.heap.size,0,none⟩=some (.int .u32 (h 0)):=Dg.aH hv (by decide)
    have c1:wr.cell? ⟨w1.heap.size,1,none⟩=some (.int .u32 (h 1)):=Dg.aH hv (by decide)
    have c2:wr.cell? ⟨w1.heap.size,2,none⟩=some (.int .u32 (h 2)):=Dg.aH hv (by decide)
    have c3:wr.cell? ⟨w1.heap.size,3,none⟩=some (.int .u32 (h 3)):=Dg.aH hv (by decide)
    have c4:wr.cell? ⟨w1.heap.size,4,none⟩=some (.int .u32 (h 4)):=Dg.aH hv (by decide)
    have c5:wr.cell? ⟨w1.heap.size,5,none⟩=some (.int .u32 (h 5)):=Dg.aH hv (by decide)
    have c6:wr.cell? ⟨w1.heap.size,6,none⟩=some (.int .u32 (h 6)):=Dg.aH hv (by decide)
    have c7:wr.cell? ⟨w1.heap.size,7,none⟩=some (.int .u32 (h 7)):=Dg.aH hv (by decide)
    have hcb:Hid (∀(W:World),Below wr.heap.size wr W→Calls Tryz.prog 120 #[.slice (some ⟨g,64*n,none⟩) 64 (cap-64*n)] W fun e w3=>e=.returned (.agg (Dg.bw 64 .u32 (Dg.sched fun j=>Dg.nu s (64*n+j))))∧(w3.cell? ⟨w1.heap.size,0,none⟩=some (.int .u32 (h 0))∧w3.cell? ⟨w1.heap.size,1,none⟩=some (.int .u32 (h 1))∧w3.cell? ⟨w1.heap.size,2,none⟩=some (.int .u32 (h 2))∧w3.cell? ⟨w1.heap.size,3,none⟩=some (.int .u32 (h 3))∧w3.cell? ⟨w1.heap.size,4,none⟩=some (.int .u32 (h 4))∧w3.cell? ⟨w1.heap.size,5,none⟩=some (.int .u32 (h 5))∧w3.cell? ⟨w1.heap.size,6,none⟩=some (.int .u32 (h 6))∧w3.cell? ⟨w1.heap.size,7,none⟩=some (.int .u32 (h 7)))∧w1.heap.size<w3.heap.size∧Hid (Below wr.heap.size wr w3)):=by
     intro W hW
     have xI:∀j,j<64→W.cell? ⟨g,64*n+j,none⟩=some (.int .u8 (Dg.nu s (64*n+j))):=by
      intro j hj
      have e1:wr.cell? ⟨g,64*n+j,none⟩=w2.cell? ⟨g,64*n+j,none⟩:=World.cell?_of_block (EG.out.block g mO (by simp only[List.mem_singleton];omega))
      rw[hW.cell (show g<wr.heap.size from Nat.lt_of_lt_of_le mO EG.out.size),e1]
      exact HC.out _ (by omega)
     refine(I3 W g (64*n) (cap-64*n) _ (by omega) xI).mono ?_
     rintro e w3 ⟨rfl,hb⟩
     have fH:Below wr.heap.size wr w3:=hW.trans (hb.mono hW.size)
     have PI:w3.heap[w1.heap.size]?=some (.cells (Dg.bw 8 .u32 h) 230 (0,0)):=by
      rw[fH.block _ Wm];exact hv
     exact⟨rfl,⟨Dg.aH PI (by decide),Dg.aH PI (by decide),Dg.aH PI (by decide),Dg.aH PI (by decide),Dg.aH PI (by decide),Dg.aH PI (by decide),Dg.aH PI (by decide),Dg.aH PI (by decide)⟩,lt_of_heap PI,fH⟩
    have wM:Hid (∀(W:World),Below wr.heap.size wr W→Calls Tryz.prog 119 #[.agg #[.int .u32 (h 0),.int .u32 (h 1),.int .u32 (h 2),.int .u32 (h 3),.int .u32 (h 4),.int .u32 (h 5),.int .u32 (h 6),.int .u32 (h 7)],.agg (Dg.bw 64 .u32 (Dg.sched fun j=>Dg.nu s (64*n+j)))] W fun e w4=>e=.returned (.agg #[.int .u32 (Dg.behind K h (Dg.sched fun j=>Dg.nu s (64*n+j)) 0),.int .u32 (Dg.behind K h (Dg.sched fun j=>Dg.nu s (64*n+j)) 1),.int .u32 (Dg.behind K h (Dg.sched fun j=>Dg.nu s (64*n+j)) 2),.int .u32 (Dg.behind K h (Dg.sched fun j=>Dg.nu s (64*n+j)) 3),.int .u32 (Dg.behind K h (Dg.sched fun j=>Dg.nu s (64*n+j)) 4),.int .u32 (Dg.behind K h (Dg.sched fun j=>Dg.nu s (64*n+j)) 5),.int .u32 (Dg.behind K h (Dg.sched fun j=>Dg.nu s (64*n+j)) 6),.int .u32 (Dg.behind K h (Dg.sched fun j=>Dg.nu s (64*n+j)) 7)])∧(w4.cell? ⟨w1.heap.size,0,none⟩=some (.int .u32 (h 0))∧w4.cell? ⟨w1.heap.size,1,none⟩=some (.int .u32 (h 1))∧w4.cell? ⟨w1.heap.size,2,none⟩=some (.int .u32 (h 2))∧w4.cell? ⟨w1.heap.size,3,none⟩=some (.int .u32 (h 3))∧w4.cell? ⟨w1.heap.size,4,none⟩=some (.int .u32 (h 4))∧w4.cell? ⟨w1.heap.size,5,none⟩=some (.int .u32 (h 5))∧w4.cell? ⟨w1.heap.size,6,none⟩=some (.int .u32 (h 6))∧w4.cell? ⟨w1.heap.size,7,none⟩=some (.int .u32 (h 7)))∧(w4.frozen? ⟨w1.heap.size,0,none⟩=false∧w4.frozen? ⟨w1.heap.size,1,none⟩=false∧w4.frozen? ⟨w1.heap.size,2,none⟩=false∧w4.frozen? ⟨w1.heap.size,3,none⟩=false∧w4.frozen? ⟨w1.heap.size,4,none⟩=false∧w4.frozen? ⟨w1.heap.size,5,none⟩=false∧w4.frozen? ⟨w1.heap.size,6,none⟩=false∧w4.frozen? ⟨w1.heap.size,7,none⟩=false)∧w1.heap.size<w4.heap.size∧Hid (w4.heap[w1.heap.size]?=some (.cells #[.int .u32 (h 0),.int .u32 (h 1),.int .u32 (h 2),.int .u32 (h 3),.int .u32 (h 4),.int .u32 (h 5),.int .u32 (h 6),.int .u32 (h 7)] 230 (0,0))∧Below wr.heap.size wr w4)):=by
     intro W hW
     refine(GB K h _ W ((HK.out.below HBR.out).below hW)).mono ?_
     rintro e w4 ⟨rfl,hb⟩
     have qX:Below wr.heap.size wr w4:=hW.trans (hb.mono hW.size)
     have Ci:w4.heap[w1.heap.size]?=some (.cells (Dg.bw 8 .u32 h) 230 (0,0)):=by
      rw[qX.block _ Wm];exact hv
     exact⟨rfl,⟨Dg.aH Ci (by decide),Dg.aH Ci (by decide),Dg.aH Ci (by decide),Dg.aH Ci (by decide),Dg.aH Ci (by decide),Dg.aH Ci (by decide),Dg.aH Ci (by decide),Dg.aH Ci (by decide)⟩,⟨Dg.bp Ci _,Dg.bp Ci _,Dg.bp Ci _,Dg.bp Ci _,Dg.bp Ci _,Dg.bp Ci _,Dg.bp Ci _,Dg.bp Ci _⟩,lt_of_heap Ci,Ci,qX⟩
    generalize Dg.behind K h (Dg.sched fun j=>Dg.nu s (64*n+j))=h' at wM eX
    generalize (Dg.sched fun j=>Dg.nu s (64*n+j))=ws at hcb wM
    have hpc:p+64≤cap:=by omega
    have vO:p<64*B:=by omega
    rw[←hp]at hcb
    have la:p≤1000000000000:=by omega
    clear fK hv hp
    go_upto_block 1 with fail
    go_cut [5]from 12 to 25 (fun v wx=>v=.int .i64 p∧wx.heap[w1.heap.size]?=some (.cells (Dg.bw 8 .u32 (Dg.hash K s (n+1))) 230 (0,0))∧Kb [w1.heap.size] w2 wx)
    case first=>
     go_upto_region 6 with fail
     have k1:(0:Int)≤(p:Int)+64:=by omega
     have k2:(p:Int)+64≤(cap:Int):=by omega
     have k4:((p:Int)+64).toNat=p+64:=by omega
     have k5:¬cap=p:=by omega
     have kw:IntKind.i64.wrap ((p:Int)+64)=(p:Int)+64:=by simp[IntKind.wrap,IntKind.bits,IntKind.signed];omega
     have kw2:wrap64 ((p:Int)+64)=(p:Int)+64:=by unfold wrap64;omega
     go_region_with (first | (go_at_call 120;refine(hcb.out _ (by exact(Below.refl _ _).drew)).mono ?_;rintro e w3 ⟨rfl,⟨d0,d1,d2,d3,d4,d5,d6,d7⟩,ZO,ZV⟩) | (go_at_call 119;refine(wM.out _ (by exact ZV.out)).mono ?_;rintro e w4 ⟨rfl,⟨a0,a1,a2,a3,a4,a5,a6,a7⟩,⟨f0,f1,f2,f3,f4,f5,f6,f7⟩,hl4,HV4⟩))
     all_goals
      (obtain⟨q1,q2⟩:=vq HV4.out.1 (.int .u32 (h' 0)) (.int .u32 (h' 1)) (.int .u32 (h' 2)) (.int .u32 (h' 3)) (.int .u32 (h' 4)) (.int .u32 (h' 5)) (.int .u32 (h' 6)) (.int .u32 (h' 7))
       have HQ:Hid (Kb [w1.heap.size] w2 w4):=EG.out.below HV4.out.2
       go_wp2_with fail
       go_meet
       exact⟨rfl,by rw[eX.out];exact q1,HQ.out.trans q2⟩)
    case rest=>
     obtain⟨rfl,ZJ,hk5⟩:=hcut
     have HV5:Hid (wc.heap[w1.heap.size]?=some (.cells (Dg.bw 8 .u32 (Dg.hash K s (n+1))) 230 (0,0))):=ZJ
     have HK5:Hid (Kb [w1.heap.size] w2 wc):=hk5
     clear ZJ hk5
     go_wp2_with fail
     go_roundw
     case rel=>exact⟨n+1,p+64,by have:=HP.out;omega,by omega,by go_num,HV5.out,HK5.out⟩
     case measure=>simp[intOf];omega
  · have HF:Hid (wr.heap[w1.heap.size]?=some (.cells (Dg.bw 8 .u32 (Dg.hash K s B)) 230 (0,0))):=by
     have hnB:n=B:=by omega
     rw[hnB]at hv
     exact hv
    have HZR:Hid (wr.heap[w.heap.size]?=some (.cells (Dg.bw 32 .u8 (fun _=>0)) 105 (0,0))):=EG.out.heap Wc.out (by simp only[List.mem_singleton];omega)
    have ail:¬p<64*B:=by omega
    generalize Dg.hash K s B=h at HF HE
    clear hv fK hp
    obtain⟨wA,rfl⟩:∃x,x=wr:=⟨_,rfl⟩
    go_upto_region 8 with fail
    rw[←Dg.Fk]
    obtain⟨w3,RG⟩:∃w3,w3=wA.alloc (.cells (Dg.bw 32 .u8 (fun _=>0)) 105):=⟨_,rfl⟩
    have fH:Below wA.heap.size wA w3:=by rw[RG];exact(Below.refl _ _).alloc (Nat.le_refl _) _
    have hd3:w3.heap[wA.heap.size]?=some (.cells (Dg.bw 32 .u8 (Dg.mX h 0)) 105 (0,0)):=by rw[RG];exact heap_alloc_new wA _
    have hh3:w3.heap[w1.heap.size]?=some (.cells (Dg.bw 8 .u32 h) 230 (0,0)):=by rw[fH.block _ (lt_of_heap HF.out)];exact HF.out
    have HZ3:Hid (w3.heap[w.heap.size]?=some (.cells (Dg.bw 32 .u8 (fun _=>0)) 105 (0,0))):=by rw[fH.block _ (lt_of_heap HZR.out)];exact HZR.out
    rw[←RG]
    clear RG
    have HD3:Hid (w3.heap[wA.heap.size]?=some (.cells (Dg.bw 32 .u8 (Dg.mX h 0)) 105 (0,0))):=hd3
    have hzl:=lt_of_heap HZR.out
    have ZV:Hid (Below w.heap.size w w3):=HBR.out.trans (fH.mono HBR.out.size)
    clear hd3 fH
    have hix:∀(W:World) (i:Nat),i<8→(Instr.index 230 (.agg (Dg.bw 8 .u32 h)) (.int .i64 i)).run Tryz.prog W=.ok (.int .u32 (h i)) W:=fun W i hi=>zk Tryz.underlying230 W hi
    go_wp2_with (refine wpList_load_row rfl 230 (.tmp 3) rfl w1.heap.size rfl _ _ _ _ hh3 Tryz.underlying230 rfl (by rw[Dg.cI];kernel_rfl) ?_)
    go_loopw [27] (fun i wr=>∃k:Nat,k≤8∧i=.int .i64 k∧wr.heap[wA.heap.size]?=some (.cells (Dg.bw 32 .u8 (Dg.mX h k)) 105 (0,0))∧Kb [wA.heap.size] w3 wr) (fun i _=>8-(intOf i).toNat)
    case atStart=>exact⟨0,by omega,rfl,HD3.out,Kb.refl _ _⟩
    case round=>
     obtain⟨k,hk,rfl,hv,fK⟩:=hrel
     have CK:Hid (Kb [wA.heap.size] w3 wr):=fK
     have Wm:=lt_of_heap hv
     by_cases TY:k<8
     · have hi:=hix wr k TY
       have hsl:=KN wr wA.heap.size k TY
       have hpw:Hid (Calls Tryz.prog 121 #[.slice (some ⟨wA.heap.size,4*k,none⟩) (32-4*k) (32-4*k),.int .u32 (h k)] wr fun e w5=>e=.returned (.tuple #[])∧Hid (w5.heap[wA.heap.size]?=some (.cells (Dg.bw 32 .u8 (Dg.mX h (k+1))) 105 (0,0))∧Kb [wA.heap.size] w3 w5)):=by
        refine(oA wr wA.heap.size (4*k) (32-4*k) (32-4*k) 32 105 (Dg.mX h k) (h k) (by omega) (by omega) hv).mono ?_
        rintro e w5 ⟨rfl,q1,q2⟩
        exact⟨rfl,q1,CK.out.trans q2⟩
       clear hv fK
       go_wp2_with (go_at_call 121;refine hpw.out.mono ?_;rintro e w5 ⟨rfl,Q5⟩)
       go_roundw
       case rel=>exact⟨k+1,by omega,by go_num,Q5.out.1,Q5.out.2⟩
       case measure=>simp[intOf];omega
     · have WM:wr.heap[wA.heap.size]?=some (.cells (Dg.bw 32 .u8 (Dg.mX h 8)) 105 (0,0)):=by
        have hk8:k=8:=by omega
        rw[hk8]at hv
        exact hv
       have hz:wr.heap[w.heap.size]?=some (.cells (Dg.bw 32 .u8 (fun _=>0)) 105 (0,0)):=CK.out.heap HZ3.out (by simp only[List.mem_singleton];omega)
       have wM:Below w.heap.size w wr:=CK.out.aU ZV.out ZV.out.size (by simp;omega)
       have eh:Hid (Below w.heap.size w (wr.setRow w.heap.size (Dg.bw 32 .u8 (Dg.mX h 8)))):=(Kb.setRow wr w.heap.size _).aU wM wM.size (by simp)
       have bF:Hid ((wr.setRow w.heap.size (Dg.bw 32 .u8 (Dg.mX h 8))).heap[w.heap.size]?=some (.cells (Dg.bw 32 .u8 (Dg.mX h 8)) 105 (0,0))):=bz wr w.heap.size _ hz
       generalize Dg.mX h 8=f at WM HE eh bF
       clear hv fK wM
       go_wp2_with (first | (refine wpList_load_row rfl 105 (.tmp 6) rfl wA.heap.size rfl _ _ _ _ WM Tryz.underlying105 rfl (by rw[Dg.cI];kernel_rfl) ?_) | (refine wpList_store_row rfl 105 (.tmp 2) (.tmp 37) rfl w.heap.size rfl (Dg.bw 32 .u8 f) rfl _ _ hz (by rw[Dg.cI,Dg.cI]) (by rw[Dg.cI];kernel_rfl) (Dg.xh _ _ _) ?_))
       refine bodyPost_ret (v:=.agg (Dg.bw 32 .u8 f)) ?_ rfl ⟨by rw[HE.out],eh.out⟩
       exact results_cell_row rfl _ _ _ _ _ _ _ rfl bF.out Tryz.underlying105 rfl (by rw[Dg.cI];kernel_rfl)
end
/- Package record: Head. -/
section
open Go.RowKit
namespace Dg
theorem N1(word:Int)(k:Nat):0≤byte word k∧byte word k<256:=by
 have e:byte word k=word/2^(24-8*k)%256:=by unfold byte;rw[ji];rfl
 rw[e]
 omega
theorem NV{f:Nat→Int}(h:∀j,0≤f j∧f j<256)(o:Nat)(word:Int)(k:Nat):∀j,0≤mF f o word k j∧mF f o word k j<256:=by
 intro j
 unfold mF
 split
 · exact N1 _ _
 · exact h j
theorem DX(h:Nat→Int):∀k j,0≤mX h k j∧mX h k j<256
 | 0,j=>by unfold mX;omega
 | k+1,j=>by
  unfold mX
  exact NV (DX h k) _ _ _ j
theorem Rb(K:Nat→Int)(s:ByteArray)(j:Nat):0≤Lq K s j∧Lq K s j<256:=by
 have e:Lq K s=mX (hash K s (blocks s)) 8:=by unfold Lq;rw[ji]
 rw[e]
 exact DX _ _ _
def Fq(K:Nat→Int)(s:ByteArray):List UInt8:=(List.range 32).map fun j=>UInt8.ofNat (Lq K s j).toNat
theorem wu(K:Nat→Int)(s:ByteArray):(Fq K s).length=32:=by simp[Fq]
theorem Nq(K:Nat→Int)(s:ByteArray):bw 32 .u8 (Lq K s)=(Rc.bP (Fq K s)).toArray:=by
 unfold bw Fq Rc.bP
 rw[List.map_map]
 congr 1
 refine List.map_congr_left fun j _=> ?_
 obtain⟨h1,h2⟩:=Rb K s j
 have e:(UInt8.ofNat (Lq K s j).toNat).toNat=(Lq K s j).toNat:=by simp;omega
 simp only[Function.comp]
 rw[e]
 congr 1
 omega
end Dg
theorem Dx(K:Nat→Int)(s:ByteArray)(w:World)(hK:Dg.AR w K)(hs:s.size≤100000000000):Calls Tryz.prog 60 #[.string s] w fun e w'=>e=.returned (.agg (Rc.bP (Dg.Fq K s)).toArray)∧Below w.heap.size w w':=by
 rw[←Dg.Nq]
 exact Tp K s w hK hs
def iA(K:Nat→Int)(ahead:List UInt8)(content:ByteArray):List UInt8:=Dg.Fq K (⟨ahead.toArray⟩++content)
theorem EN(K:Nat→Int)(w:World)(ahead:List UInt8)(content:ByteArray)(hK:Dg.AR w K)(ha:ahead.length=32)(hs:content.size≤10000000000):
 Calls Tryz.prog 70 #[.agg (Rc.bP ahead).toArray,.string content] w fun e w'=>e=.returned (.agg (Rc.bP (iA K ahead content)).toArray)∧Below w.heap.size w w':=by
 have JP:(Rc.bP ahead).length=32:=by rw[Rc.bN,ha]
 have j0:=heap_alloc2_old w (.cells (Rc.bP ahead).toArray 105) (.cells (Dg.bw 32 .u8 (fun _=>0)) 105)
 have j1:=heap_alloc2_new w (.cells (Rc.bP ahead).toArray 105) (.cells (Dg.bw 32 .u8 (fun _=>0)) 105)
 have jb:Below w.heap.size w ((w.alloc (.cells (Rc.bP ahead).toArray 105)).alloc (.cells (Dg.bw 32 .u8 (fun _=>0)) 105)):=((Below.refl _ _).alloc (Nat.le_refl _) _).alloc (by simp) _
 obtain⟨w0,db⟩:∃w0,w0=(w.alloc (.cells (Rc.bP ahead).toArray 105)).alloc (.cells (Dg.bw 32 .u8 (fun _=>0)) 105):=⟨_,rfl⟩
 rw[←db]at j0 j1 jb
 have PV:(convert 63 9 (.slice (some ⟨w.heap.size,0,none⟩) 32 32)).run Tryz.prog w0=.ok (.string ⟨ahead.toArray⟩) w0:=by
  rw[←ha]
  refine run_convert_bytes_back w0 63 9 5 ⟨w.heap.size,0,none⟩ _ ahead Tryz.underlying63 Tryz.underlying5 Tryz.underlying9 ?_
  intro j hj
  have ef:(⟨w.heap.size,0,none⟩:Addr).add j=⟨w.heap.size,j,none⟩:=by unfold Addr.add;split<;>simp_all
  rw[ef,cell_of_row _ _ _ _ _ _ j0,List.getElem?_toArray,Rc.bP,List.getElem?_map,List.getElem?_eq_getElem hj]
  rfl
 have cR:(⟨ahead.toArray⟩:ByteArray).size=32:=ha
 have hof:Hid (Calls Tryz.prog 60 #[.string (⟨ahead.toArray⟩++content)] w0 fun e w1=>e=.returned (.agg (Rc.bP (iA K ahead content)).toArray)∧w1.heap[w.heap.size+1]?=some (.cells (Dg.bw 32 .u8 (fun _=>0)) 105 (0,0))∧Hid (Below w.heap.size w w1)):=by
  refine(Dx K _ w0 (hK.below jb) ?_).mono ?_
  · rw[ByteArray.size_append,cR];omega
  · rintro e w1 ⟨rfl,bq⟩
    refine⟨rfl, ?_,jb.trans (bq.mono jb.size)⟩
    rw[bq.block _ (lt_of_heap j1)]
    exact j1
 have hhl:(iA K ahead content).length=32:=Dg.wu _ _
 generalize iA K ahead content=hd at hof hhl
 clear j0 j1 jb JP cR
 go_enter Tryz.func70,Tryz.ntmps70
 go_upto_region 1 with fail
 rw[←Dg.Fk,←db]
 clear db
 go_wp2_with (first | (go_at_call 60;refine hof.out.mono ?_;rintro e w1 ⟨rfl,ev,bq⟩) | (refine wpList_store_row rfl 105 (.tmp 4) (.tmp 9) rfl (w.heap.size+1) rfl (Rc.bP hd).toArray rfl _ _ ev (by rw[Dg.cI];simp[Rc.bN,hhl]) (by simp only[List.size_toArray,Rc.bN,hhl];kernel_rfl) (by simpa using Rc.sB hd) ?_))
 have eh:=(Kb.setRow w1 (w.heap.size+1) (Rc.bP hd).toArray).aU bq.out bq.out.size (by simp)
 refine bodyPost_ret (v:=.agg (Rc.bP hd).toArray) ?_ rfl ⟨rfl,eh⟩
 exact results_cell_row rfl _ _ _ _ _ _ _ rfl (bz w1 _ _ ev) Tryz.underlying105 rfl (by simp only[List.size_toArray,Rc.bN,hhl];kernel_rfl)
end
/- Package record: Append. -/
section
open Go.RowKit
theorem CN(B:Nat)(w:World)(v:Value)(n:Nat)(xs:List Value)(content:ByteArray)(hd:List UInt8)(au:w.ownsRow B 5 1 v n xs)(hB:B≤w.heap.size)(hn:n≤50000000000)(hc:content.size≤1000000000)(hl:hd.length=32):
 Calls Tryz.prog 71 #[v,.string content,.agg (Rc.bP hd).toArray] w fun e w'=>∃v' n',e=.returned v'∧qN B w w' v' n' (xs++Rc.bP (Rc.aS content++hd))∧Kb v.ownBlock.toList w w'∧cr w v v':=by
 obtain⟨i0,jS,ew,ev,dY⟩:=info_parts Tryz.ku
 have HI:Hid (Tryz.prog.info? 5=some i0):=jS
 have H0:Hid (i0.zero=some (.int .u8 0)):=ew
 have H1:Hid (i0.size=1):=ev
 have H2:Hid (i0.bytes=1):=dY
 clear jS ew ev dY
 obtain⟨vd,vc,Rp⟩:=aj au
 subst Rp
 obtain⟨w0,db⟩:∃w0,w0=w.alloc (.cells (Rc.bP hd).toArray 105):=⟨_,rfl⟩
 have bU:Below B w w0:=by rw[db];exact(Below.refl _ _).alloc hB _
 have ho0:Lib.OthersKept 5 none w w0:=by rw[db];exact(Lib.OthersKept.refl _ _ _).alloc _
 have S5:Below w.heap.size w w0:=by rw[db];exact(Below.refl _ _).alloc (Nat.le_refl _) _
 have Fy:w0.heap[w.heap.size]?=some (.cells (Rc.bP hd).toArray 105 (0,0)):=by rw[db];exact heap_alloc_new w _
 have ig:w0.ownsRow B 5 1 (.slice vd n vc) n xs:=by rw[db];exact au.alloc _
 have oP:xs.length=n:=by have:=au.1;omega
 have adG:(Rc.bP hd).length=32:=by rw[Rc.bN,hl]
 have Ym:B≤w0.heap.size:=Nat.le_trans hB bU.size
 have Ew:Hid (∀W:World,Below w0.heap.size w0 W→Calls Tryz.prog 77 #[.slice vd n vc,.string content] W fun e w1=>∃v1 n1,e=.returned v1∧n1≤60000000000∧w1.ownsRow B 5 1 v1 n1 (xs++Rc.bP (Rc.aS content))∧B≤w1.heap.size∧w.heap.size<w1.heap.size∧Hid (∀j u,(Rc.bP hd)[j]?=some u→w1.cell? ((⟨w.heap.size,0,none⟩:Addr).add j)=some u)∧Hid (Below B w w1∧Lib.OthersKept 5 none w w1∧Kb (Value.slice vd n vc).ownBlock.toList w w1∧cr w (.slice vd n vc) v1)):=by
  intro W hW
  have hBW:B≤W.heap.size:=Nat.le_trans Ym hW.size
  refine(pU B W (.slice vd n vc) n xs content (ah ig hW) hBW (by omega) (by omega)).mono ?_
  rintro e w1 ⟨v1,n1,rfl,q1,q2,q3,q4,q5⟩
  have lS:w1.heap[w.heap.size]?=some (.cells (Rc.bP hd).toArray 105 (0,0)):=q3 w.heap.size _ (by rw[hW.block _ (lt_of_heap Fy)];exact Fy) (by simp) (fun c fz e=>by simp at e)
  have yg:n1≤60000000000:=by
   have h1:=q1.1
   have h2:=Rc.ry content.size (by omega)
   rw[List.length_append,Rc.bN,Rc.aS,List.length_append]at h1
   simp at h1
   omega
  refine⟨v1,n1,rfl,yg,q1,Nat.le_trans hBW q2.size,lt_of_heap lS, ?_,⟨(bU.trans (hW.mono Ym)).trans q2,aO (aO ho0 (bT hW)) q3,(Kb.bM (S5.trans (hW.mono S5.size)) _).trans q4,q5.mono (Nat.le_trans S5.size hW.size)⟩⟩
  exact World.news_of_block lS
 clear au ig bU ho0 Fy
 go_enter Tryz.func71,Tryz.ntmps71
 go_wp2_with fail
 rw[←db]
 clear db
 go_region_held3 (fun _=>True) (trivial) (first | (go_at_call 77;refine(Ew.out _ (by exact(Below.refl _ _).drew)).mono ?_;rintro e w1 ⟨v1,n1,rfl,yg,bH,UF,N0,V0,Ix⟩) | (refine step_append_lies _ rfl (.tmp 9) (.tmp 10) 63 rfl B 5 i0 _ 1 1 Tryz.underlying63 HI.out H0.out H1.out H2.out rfl (by decide) v1 n1 (xs++Rc.bP (Rc.aS content)) (by simp[Act.eval,Act.put]) (by exact bH) ⟨w.heap.size,0,none⟩ 32 32 (Rc.bP hd) (by simp[Act.eval,Act.put]) (by rw[adG]) (by exact V0.out) (Rc.sB hd) (by decide) (by unfold maxLen;omega) (by omega) (by exact UF) w1.heap.size rfl ?_;intro g2 kX w2 aP cg Mh qQ))
 all_goals
  (have cw:Below B w w2:=Ix.out.1.grown cg UF (fun k hk=>(bH.lt k hk).1)
   have yf:Lib.OthersKept 5 none w w2:=Ix.out.2.1.grown cg (bK bH)
   have Wg:Hid (Kb (Value.slice vd n vc).ownBlock.toList w w2∧cr w (.slice vd n vc) (.slice (some ⟨g2,0,none⟩) (n1+32) kX)):=Ii Ix.out.2.2.1 Ix.out.2.2.2 cg (fun b hb=>by
    simp only[Value.ownBlock,Option.some.injEq]at hb
    subst hb
    rcases Mh with h | h
    · exact .inl h
    · exact .inr (by omega))
   have qA:Hid (qN B w w2 (.slice (some ⟨g2,0,none⟩) (n1+32) kX) (n1+32) (xs++Rc.bP (Rc.aS content++hd))):=⟨by rw[Rc.gz,←List.append_assoc];exact aP,cw,yf⟩
   clear cg aP cw yf
   go_wp2_with fail
   go_ret
   exact⟨_,_,rfl,qA.out,Wg.out⟩)
end
end Go.Proofs.YtdmicblafmhflaaGreatDoor
