/- Package digest: Of. -/
import Derived.Test.YtdmicblafmhflaaGreatDoorC31
import Derived.Deep.CutBlock
import Derived.Test.YtdmicblafmhflaaGreatDoorC29
import Derived.Deep.RegionLaw
import Derived.Deep.RegionHeld3
set_option linter.unusedSimpArgs false
set_option linter.unusedVariables false
set_option maxHeartbeats 2000000
set_option maxRecDepth 100000
namespace Go.Proofs.YtdmicblafmhflaaGreatDoor
section
open Go.RowKit
namespace Dg
def iv(i:Nat):Int:=match i with | 0=>1779033703 | 1=>3144134277 | 2=>1013904242 | 3=>2773480762 | 4=>1359893119 | 5=>2600822924 | 6=>528734635 | _=>1541459225
theorem Cf:bw 32 .u8 (fun _=>0)=#[.int .u8 0,.int .u8 0,.int .u8 0,.int .u8 0,.int .u8 0,.int .u8 0,.int .u8 0,.int .u8 0,.int .u8 0,.int .u8 0,.int .u8 0,.int .u8 0,.int .u8 0,.int .u8 0,.int .u8 0,.int .u8 0,.int .u8 0,.int .u8 0,.int .u8 0,.int .u8 0,.int .u8 0,.int .u8 0,.int .u8 0,.int .u8 0,.int .u8 0,.int .u8 0,.int .u8 0,.int .u8 0,.int .u8 0,.int .u8 0,.int .u8 0,.int .u8 0]:=rfl
def adw(u:Value):Int:=match u with | .int _ v=>v | _=>0
def nz(s:ByteArray)(j:Nat):Int:=adw ((xA s).getD j (.int .u8 0))
theorem Qy(s:ByteArray):∀u,u∈xA s→∃v,u=.int .u8 v:=by
 intro u hu
 unfold xA byteCells ly bw at hu
 simp only[List.append_assoc,List.mem_append,List.mem_map,List.mem_cons,List.not_mem_nil,or_false,List.toList_toArray]at hu
 rcases hu with⟨b,_,rfl⟩ | rfl | hu | ⟨i,_,rfl⟩
 · exact⟨_,rfl⟩
 · exact⟨_,rfl⟩
 · rw[List.eq_of_mem_replicate hu];exact⟨_,rfl⟩
 · exact⟨_,rfl⟩
theorem NG(s:ByteArray){j:Nat}(h:j<(xA s).length):(xA s)[j]?=some (.int .u8 (nz s j)):=by
 obtain⟨v,hv⟩:=Qy s _ (List.getElem_mem h)
 have e:nz s j=v:=by
  unfold nz
  rw[List.getD_eq_getElem?_getD,List.getElem?_eq_getElem h,hv]
  rfl
 rw[List.getElem?_eq_getElem h,hv,e]
theorem Nd(s:ByteArray):(xA s).length=s.size+1+zc s.size+8:=by
 unfold xA ly
 simp[byteCells,cG]
 omega
def blocks(s:ByteArray):Nat:=(s.size+1+zc s.size+8)/64
theorem xe(s:ByteArray):(xA s).length=64*blocks s:=by
 rw[Nd]
 have:=(Ih s.size).1
 unfold blocks
 omega
def hash(K:Nat→Int)(s:ByteArray):Nat→Nat→Int
 | 0=>iv
 | n+1=>behind K (hash K s n) (sched fun j=>nz s (64*n+j))
def nt(h:Nat→Int):Nat→Nat→Int
 | 0=>fun _=>0
 | k+1=>l7 (nt h k) (4*k) (h k) 4
def LN:(Nat→Int)→ByteArray→Nat→Int:=shut fun K s=>nt (hash K s (blocks s)) 8
end Dg
theorem Lt(w:World):Calls Tryz.prog 117 #[] w fun e w'=>e=.returned (.agg (Dg.zu Dg.iv))∧Below w.heap.size w w':=by
 go_enter Tryz.func117,Tryz.ntmps117
 go_wp2_with fail
 refine bodyPost_ret (v:=.agg (Dg.zu Dg.iv)) ?_ rfl ⟨rfl,(Below.refl _ _).alloc (Nat.le_refl _) _⟩
 exact results_cell_row rfl _ _ _ _ _ _ _ rfl (heap_alloc_new w _) Tryz.underlying230 rfl (by kernel_rfl)
theorem Kt(W:World)(g k:Nat)(h:k<8):(Instr.sliceAt 105 (.pointer (some ⟨g,0,none⟩)) (some (.int .i64 (4*(k:Int)))) none none).run Tryz.prog W=.ok (.slice (some ⟨g,4*k,none⟩) (32-4*k) (32-4*k)) W:=by
 have h3:(0:Int)≤4*(k:Int):=by omega
 have e2:(4*(k:Int)).toNat=4*k:=by omega
 have h4:4*(k:Int)≤32:=by omega
 have h5:¬32=4*k:=by omega
 have dI:(⟨g,0,none⟩:Addr).add (4*k)=⟨g,4*k,none⟩:=by unfold Addr.add;split<;>simp_all
 have hu:=run_underlying Tryz.underlying105 W
 have cE:=Tryz.sizeOf5 W
 unfold Instr.sliceAt
 simp[hu,Instr.sureAddr,Instr.sliceBounds,Instr.sliceBound,asIntOf,h3,e2,h4,h5,cE,dI]
theorem Tx(K:Nat→Int)(s:ByteArray)(w:World)(hK:Dg.uw w K)(hs:s.size≤100000000000):Calls Tryz.prog 60 #[.string s] w fun e w'=>e=.returned (.agg (Dg.bw 32 .u8 (Dg.LN K s)))∧Below w.heap.size w w':=by
 have HE:Hid (Dg.LN K s=Dg.nt (Dg.hash K s (Dg.blocks s)) 8):=by
  have:Dg.LN K s=Dg.nt (Dg.hash K s (Dg.blocks s)) 8:=by unfold Dg.LN;rw[Dg.ja]
  exact this
 have HK:Hid (Dg.uw w K):=hK
 clear hK
 obtain⟨w0,cZ⟩:∃w0,w0=w.alloc (.cells (Dg.bw 32 .u8 (fun _=>0)) 105):=⟨_,rfl⟩
 have bL:Below w.heap.size w w0:=by rw[cZ];exact(Below.refl _ _).alloc (Nat.le_refl _) _
 have ew:w0.heap[w.heap.size]?=some (.cells (Dg.bw 32 .u8 (fun _=>0)) 105 (0,0)):=by rw[cZ];exact heap_alloc_new w _
 have ev:=Lt w0
 have e8:Dg.zu Dg.iv=#[.int .u32 (Dg.iv 0),.int .u32 (Dg.iv 1),.int .u32 (Dg.iv 2),.int .u32 (Dg.iv 3),.int .u32 (Dg.iv 4),.int .u32 (Dg.iv 5),.int .u32 (Dg.iv 6),.int .u32 (Dg.iv 7)]:=rfl
 rw[e8]at ev
 go_enter Tryz.func60,Tryz.ntmps60
 go_upto_region 1 with fail
 rw[←Dg.Cf,←cZ]
 clear cZ e8
 go_upto_region 2 with(go_at_call 117;refine ev.mono ?_;rintro e w1 ⟨rfl,a8⟩)
 have L9:Hid (∀W:World,Calls Tryz.prog 118 #[.string s] W fun e w2=>∃g cap,e=.returned (.slice (some ⟨g,0,none⟩) (64*Dg.blocks s) cap)∧64*Dg.blocks s≤cap∧g<w2.heap.size∧Hid (∀j,j<64*Dg.blocks s→w2.cell? ⟨g,j,none⟩=some (.int .u8 (Dg.nz s j)))∧Hid (Below W.heap.size W w2)∧W.heap.size≤g):=by
  intro W
  refine(RS W s hs).mono ?_
  rintro e w2 ⟨v,n,rfl,bQ,hb⟩
  have hn:n=64*Dg.blocks s:=by rw[←bQ.1,Dg.xe]
  subst hn
  obtain⟨g,cap,rfl,hB,mO,mG,dg⟩:=bQ.lt
  exact⟨g,cap,rfl,mG,mO,fun j hj=>dg j _ (Dg.NG s (by rw[Dg.xe];exact hj)),hb,hB⟩
 have mK:Hid (Below w.heap.size w w1):=bL.trans (a8.mono bL.size)
 have Zf:Hid (w1.heap[w.heap.size]?=some (.cells (Dg.bw 32 .u8 (fun _=>0)) 105 (0,0))):=by
  rw[a8.block _ (lt_of_heap ew)]
  exact ew
 have fm:Dg.blocks s≤10000000000:=by unfold Dg.blocks Dg.zc;omega
 clear ev bL ew a8
 go_upto_region 3 with(go_at_call 118;refine(L9.out _).mono ?_;rintro e w2 ⟨g,cap,rfl,mG,mO,HC,CU,GM⟩)
 rw[World.size_alloc]at GM
 have HH:Hid (w2.heap[w1.heap.size]?=some (.cells (Dg.bw 8 .u32 (Dg.hash K s 0)) 230 (0,0))):=by
  rw[CU.out.block _ (by simp)]
  exact heap_alloc_new w1 _
 have Q8:Hid (w2.heap[w.heap.size]?=some (.cells (Dg.bw 32 .u8 (fun _=>0)) 105 (0,0))):=by
  have aE:=lt_of_heap Zf.out
  rw[CU.out.block _ (by simp;omega),Below.heap_alloc _ _ _ aE]
  exact Zf.out
 have Cv:Hid (Below w.heap.size w w2):=(mK.out.alloc mK.out.size _).trans (CU.out.mono (by have:=mK.out.size;simp;omega))
 have hws:w.heap.size≤w1.heap.size:=mK.out.size
 have sL:w.heap.size≠w1.heap.size:=by have:=lt_of_heap Zf.out;omega
 generalize hBB:Dg.blocks s=B at mG HC fm HE
 clear hBB L9
 go_wp2_with fail
 go_loopw [5] (fun i wr=>∃n p:Nat,p=64*n∧n≤B∧i=.int .i64 p∧wr.heap[w1.heap.size]?=some (.cells (Dg.bw 8 .u32 (Dg.hash K s n)) 230 (0,0))∧Kb [w1.heap.size] w2 wr) (fun i _=>64*B-(intOf i).toNat)
 case atStart=>exact⟨0,0,rfl,Nat.zero_le _,rfl,HH.out,Kb.refl _ _⟩
 case round=>
  obtain⟨n,p,hp,hn,rfl,hv,fq⟩:=hrel
  have HP:Hid (p=64*n):=hp
  have EX:Hid (Kb [w1.heap.size] w2 wr):=fq
  have WK:=lt_of_heap hv
  have HBR:Hid (Below w.heap.size w wr):=fq.aK Cv.out Cv.out.size (by simp;omega)
  by_cases aE:n<B
  · have fR:Hid (Dg.hash K s (n+1)=Dg.behind K (Dg.hash K s n) (Dg.sched fun j=>Dg.nz s (64*n+j))):=(rfl:Dg.hash K s (n+1)=_)
    generalize Dg.hash K s n=h at hv fR
    have c0:wr.cell? ⟨w1.heap.size,0,none⟩=some (.int .u32 (h 0)):=Dg.aF hv (by decide)
    have c1:wr.cell? ⟨w1.heap.size,1,none⟩=some (.int .u32 (h 1)):=Dg.aF hv (by decide)
    have c2:wr.cell? ⟨w1.heap.size,2,none⟩=some (.int .u32 (h 2)):=Dg.aF hv (by decide)
    have c3:wr.cell? ⟨w1.heap.size,3,none⟩=some (.int .u32 (h 3)):=Dg.aF hv (by decide)
    have c4:wr.cell? ⟨w1.heap.size,4,none⟩=some (.int .u32 (h 4)):=Dg.aF hv (by decide)
    have c5:wr.cell? ⟨w1.heap.size,5,none⟩=some (.int .u32 (h 5)):=Dg.aF hv (by decide)
    have c6:wr.cell? ⟨w1.heap.size,6,none⟩=some (.int .u32 (h 6)):=Dg.aF hv (by decide)
    have c7:wr.cell? ⟨w1.heap.size,7,none⟩=some (.int .u32 (h 7)):=Dg.aF hv (by decide)
    have hcb:Hid (∀(W:World),Below wr.heap.size wr W→Calls Tryz.prog 120 #[.slice (some ⟨g,64*n,none⟩) 64 (cap-64*n)] W fun e w3=>e=.returned (.agg (Dg.bw 64 .u32 (Dg.sched fun j=>Dg.nz s (64*n+j))))∧(w3.cell? ⟨w1.heap.size,0,none⟩=some (.int .u32 (h 0))∧w3.cell? ⟨w1.heap.size,1,none⟩=some (.int .u32 (h 1))∧w3.cell? ⟨w1.heap.size,2,none⟩=some (.int .u32 (h 2))∧w3.cell? ⟨w1.heap.size,3,none⟩=some (.int .u32 (h 3))∧w3.cell? ⟨w1.heap.size,4,none⟩=some (.int .u32 (h 4))∧w3.cell? ⟨w1.heap.size,5,none⟩=some (.int .u32 (h 5))∧w3.cell? ⟨w1.heap.size,6,none⟩=some (.int .u32 (h 6))∧w3.cell? ⟨w1.heap.size,7,none⟩=some (.int .u32 (h 7)))∧w1.heap.size<w3.heap.size∧Hid (Below wr.heap.size wr w3)):=by
     intro W hW
     have vD:∀j,j<64→W.cell? ⟨g,64*n+j,none⟩=some (.int .u8 (Dg.nz s (64*n+j))):=by
      intro j hj
      have e1:wr.cell? ⟨g,64*n+j,none⟩=w2.cell? ⟨g,64*n+j,none⟩:=World.cell?_of_block (EX.out.block g mO (by simp only[List.mem_singleton];omega))
      rw[hW.cell (show g<wr.heap.size from Nat.lt_of_lt_of_le mO EX.out.size),e1]
      exact HC.out _ (by omega)
     refine(Jo W g (64*n) (cap-64*n) _ (by omega) vD).mono ?_
     rintro e w3 ⟨rfl,hb⟩
     have eA:Below wr.heap.size wr w3:=hW.trans (hb.mono hW.size)
     have LC:w3.heap[w1.heap.size]?=some (.cells (Dg.bw 8 .u32 h) 230 (0,0)):=by
      rw[eA.block _ WK];exact hv
     exact⟨rfl,⟨Dg.aF LC (by decide),Dg.aF LC (by decide),Dg.aF LC (by decide),Dg.aF LC (by decide),Dg.aF LC (by decide),Dg.aF LC (by decide),Dg.aF LC (by decide),Dg.aF LC (by decide)⟩,lt_of_heap LC,eA⟩
    have tp:Hid (∀(W:World),Below wr.heap.size wr W→Calls Tryz.prog 119 #[.agg #[.int .u32 (h 0),.int .u32 (h 1),.int .u32 (h 2),.int .u32 (h 3),.int .u32 (h 4),.int .u32 (h 5),.int .u32 (h 6),.int .u32 (h 7)],.agg (Dg.bw 64 .u32 (Dg.sched fun j=>Dg.nz s (64*n+j)))] W fun e w4=>e=.returned (.agg #[.int .u32 (Dg.behind K h (Dg.sched fun j=>Dg.nz s (64*n+j)) 0),.int .u32 (Dg.behind K h (Dg.sched fun j=>Dg.nz s (64*n+j)) 1),.int .u32 (Dg.behind K h (Dg.sched fun j=>Dg.nz s (64*n+j)) 2),.int .u32 (Dg.behind K h (Dg.sched fun j=>Dg.nz s (64*n+j)) 3),.int .u32 (Dg.behind K h (Dg.sched fun j=>Dg.nz s (64*n+j)) 4),.int .u32 (Dg.behind K h (Dg.sched fun j=>Dg.nz s (64*n+j)) 5),.int .u32 (Dg.behind K h (Dg.sched fun j=>Dg.nz s (64*n+j)) 6),.int .u32 (Dg.behind K h (Dg.sched fun j=>Dg.nz s (64*n+j)) 7)])∧(w4.cell? ⟨w1.heap.size,0,none⟩=some (.int .u32 (h 0))∧w4.cell? ⟨w1.heap.size,1,none⟩=some (.int .u32 (h 1))∧w4.cell? ⟨w1.heap.size,2,none⟩=some (.int .u32 (h 2))∧w4.cell? ⟨w1.heap.size,3,none⟩=some (.int .u32 (h 3))∧w4.cell? ⟨w1.heap.size,4,none⟩=some (.int .u32 (h 4))∧w4.cell? ⟨w1.heap.size,5,none⟩=some (.int .u32 (h 5))∧w4.cell? ⟨w1.heap.size,6,none⟩=some (.int .u32 (h 6))∧w4.cell? ⟨w1.heap.size,7,none⟩=some (.int .u32 (h 7)))∧(w4.frozen? ⟨w1.heap.size,0,none⟩=false∧w4.frozen? ⟨w1.heap.size,1,none⟩=false∧w4.frozen? ⟨w1.heap.size,2,none⟩=false∧w4.frozen? ⟨w1.heap.size,3,none⟩=false∧w4.frozen? ⟨w1.heap.size,4,none⟩=false∧w4.frozen? ⟨w1.heap.size,5,none⟩=false∧w4.frozen? ⟨w1.heap.size,6,none⟩=false∧w4.frozen? ⟨w1.heap.size,7,none⟩=false)∧w1.heap.size<w4.heap.size∧Hid (w4.heap[w1.heap.size]?=some (.cells #[.int .u32 (h 0),.int .u32 (h 1),.int .u32 (h 2),.int .u32 (h 3),.int .u32 (h 4),.int .u32 (h 5),.int .u32 (h 6),.int .u32 (h 7)] 230 (0,0))∧Below wr.heap.size wr w4)):=by
     intro W hW
     refine(F8 K h _ W ((HK.out.below HBR.out).below hW)).mono ?_
     rintro e w4 ⟨rfl,hb⟩
     have kW:Below wr.heap.size wr w4:=hW.trans (hb.mono hW.size)
     have Cu:w4.heap[w1.heap.size]?=some (.cells (Dg.bw 8 .u32 h) 230 (0,0)):=by
      rw[kW.block _ WK];exact hv
     exact⟨rfl,⟨Dg.aF Cu (by decide),Dg.aF Cu (by decide),Dg.aF Cu (by decide),Dg.aF Cu (by decide),Dg.aF Cu (by decide),Dg.aF Cu (by decide),Dg.aF Cu (by decide),Dg.aF Cu (by decide)⟩,⟨Dg.bl Cu _,Dg.bl Cu _,Dg.bl Cu _,Dg.bl Cu _,Dg.bl Cu _,Dg.bl Cu _,Dg.bl Cu _,Dg.bl Cu _⟩,lt_of_heap Cu,Cu,kW⟩
    generalize Dg.behind K h (Dg.sched fun j=>Dg.nz s (64*n+j))=h' at tp fR
    generalize (Dg.sched fun j=>Dg.nz s (64*n+j))=ws at hcb tp
    have hpc:p+64≤cap:=by omega
    have ye:p<64*B:=by omega
    rw[←hp]at hcb
    have kY:p≤1000000000000:=by omega
    clear fq hv hp
    go_upto_block 1 with fail
    go_cut [5]from 12 to 25 (fun v wx=>v=.int .i64 p∧wx.heap[w1.heap.size]?=some (.cells (Dg.bw 8 .u32 (Dg.hash K s (n+1))) 230 (0,0))∧Kb [w1.heap.size] w2 wx)
    case first=>
     go_upto_region 6 with fail
     have k1:(0:Int)≤(p:Int)+64:=by omega
     have k2:(p:Int)+64≤(cap:Int):=by omega
     have k4:((p:Int)+64).toNat=p+64:=by omega
     have k5:¬cap=p:=by omega
     have kw:IntKind.i64.wrap ((p:Int)+64)=(p:Int)+64:=by simp[IntKind.wrap,IntKind.bits,IntKind.signed];omega
     have kw2:wrap64 ((p:Int)+64)=(p:Int)+64:=by unfold wrap64;omega
     go_region_with (first | (go_at_call 120;refine(hcb.out _ (by exact(Below.refl _ _).drew)).mono ?_;rintro e w3 ⟨rfl,⟨d0,d1,d2,d3,d4,d5,d6,d7⟩,hl3,Z3⟩) | (go_at_call 119;refine(tp.out _ (by exact Z3.out)).mono ?_;rintro e w4 ⟨rfl,⟨a0,a1,a2,a3,a4,a5,a6,a7⟩,⟨f0,f1,f2,f3,f4,f5,f6,f7⟩,hl4,HV4⟩))
     all_goals
      (obtain⟨q1,q2⟩:=vM HV4.out.1 (.int .u32 (h' 0)) (.int .u32 (h' 1)) (.int .u32 (h' 2)) (.int .u32 (h' 3)) (.int .u32 (h' 4)) (.int .u32 (h' 5)) (.int .u32 (h' 6)) (.int .u32 (h' 7))
       have HQ:Hid (Kb [w1.heap.size] w2 w4):=EX.out.below HV4.out.2
       go_wp2_with fail
       go_meet
       exact⟨rfl,by rw[fR.out];exact q1,HQ.out.trans q2⟩)
    case rest=>
     obtain⟨rfl,ZE,hk5⟩:=hcut
     have HV5:Hid (wc.heap[w1.heap.size]?=some (.cells (Dg.bw 8 .u32 (Dg.hash K s (n+1))) 230 (0,0))):=ZE
     have HK5:Hid (Kb [w1.heap.size] w2 wc):=hk5
     clear ZE hk5
     go_wp2_with fail
     go_roundw
     case rel=>exact⟨n+1,p+64,by have:=HP.out;omega,by omega,by go_num,HV5.out,HK5.out⟩
     case measure=>simp[intOf];omega
  · have HF:Hid (wr.heap[w1.heap.size]?=some (.cells (Dg.bw 8 .u32 (Dg.hash K s B)) 230 (0,0))):=by
     have hnB:n=B:=by omega
     rw[hnB]at hv
     exact hv
    have HZR:Hid (wr.heap[w.heap.size]?=some (.cells (Dg.bw 32 .u8 (fun _=>0)) 105 (0,0))):=EX.out.heap Q8.out (by simp only[List.mem_singleton];omega)
    have ahJ:¬p<64*B:=by omega
    generalize Dg.hash K s B=h at HF HE
    clear hv fq hp
    obtain⟨wA,rfl⟩:∃x,x=wr:=⟨_,rfl⟩
    go_upto_region 8 with fail
    rw[←Dg.Cf]
    obtain⟨w3,Su⟩:∃w3,w3=wA.alloc (.cells (Dg.bw 32 .u8 (fun _=>0)) 105):=⟨_,rfl⟩
    have eA:Below wA.heap.size wA w3:=by rw[Su];exact(Below.refl _ _).alloc (Nat.le_refl _) _
    have hd3:w3.heap[wA.heap.size]?=some (.cells (Dg.bw 32 .u8 (Dg.nt h 0)) 105 (0,0)):=by rw[Su];exact heap_alloc_new wA _
    have hh3:w3.heap[w1.heap.size]?=some (.cells (Dg.bw 8 .u32 h) 230 (0,0)):=by rw[eA.block _ (lt_of_heap HF.out)];exact HF.out
    have HZ3:Hid (w3.heap[w.heap.size]?=some (.cells (Dg.bw 32 .u8 (fun _=>0)) 105 (0,0))):=by rw[eA.block _ (lt_of_heap HZR.out)];exact HZR.out
    rw[←Su]
    clear Su
    have HD3:Hid (w3.heap[wA.heap.size]?=some (.cells (Dg.bw 32 .u8 (Dg.nt h 0)) 105 (0,0))):=hd3
    have hzl:=lt_of_heap HZR.out
    have Z3:Hid (Below w.heap.size w w3):=HBR.out.trans (eA.mono HBR.out.size)
    clear hd3 eA
    have hix:∀(W:World) (i:Nat),i<8→(Instr.index 230 (.agg (Dg.bw 8 .u32 h)) (.int .i64 i)).run Tryz.prog W=.ok (.int .u32 (h i)) W:=fun W i hi=>A4 Tryz.underlying230 W hi
    go_wp2_with (refine wpList_load_row rfl 230 (.tmp 3) rfl w1.heap.size rfl _ _ _ _ hh3 Tryz.underlying230 rfl (by rw[Dg.cG];kernel_rfl) ?_)
    go_loopw [27] (fun i wr=>∃k:Nat,k≤8∧i=.int .i64 k∧wr.heap[wA.heap.size]?=some (.cells (Dg.bw 32 .u8 (Dg.nt h k)) 105 (0,0))∧Kb [wA.heap.size] w3 wr) (fun i _=>8-(intOf i).toNat)
    case atStart=>exact⟨0,by omega,rfl,HD3.out,Kb.refl _ _⟩
    case round=>
     obtain⟨k,hk,rfl,hv,fq⟩:=hrel
     have CI:Hid (Kb [wA.heap.size] w3 wr):=fq
     have WK:=lt_of_heap hv
     by_cases Xi:k<8
     · have hi:=hix wr k Xi
       have hsl:=Kt wr wA.heap.size k Xi
       have hpw:Hid (Calls Tryz.prog 121 #[.slice (some ⟨wA.heap.size,4*k,none⟩) (32-4*k) (32-4*k),.int .u32 (h k)] wr fun e w5=>e=.returned (.tuple #[])∧Hid (w5.heap[wA.heap.size]?=some (.cells (Dg.bw 32 .u8 (Dg.nt h (k+1))) 105 (0,0))∧Kb [wA.heap.size] w3 w5)):=by
        refine(oq wr wA.heap.size (4*k) (32-4*k) (32-4*k) 32 105 (Dg.nt h k) (h k) (by omega) (by omega) hv).mono ?_
        rintro e w5 ⟨rfl,q1,q2⟩
        exact⟨rfl,q1,CI.out.trans q2⟩
       clear hv fq
       go_wp2_with (go_at_call 121;refine hpw.out.mono ?_;rintro e w5 ⟨rfl,Q5⟩)
       go_roundw
       case rel=>exact⟨k+1,by omega,by go_num,Q5.out.1,Q5.out.2⟩
       case measure=>simp[intOf];omega
     · have Zp:wr.heap[wA.heap.size]?=some (.cells (Dg.bw 32 .u8 (Dg.nt h 8)) 105 (0,0)):=by
        have hk8:k=8:=by omega
        rw[hk8]at hv
        exact hv
       have hz:wr.heap[w.heap.size]?=some (.cells (Dg.bw 32 .u8 (fun _=>0)) 105 (0,0)):=CI.out.heap HZ3.out (by simp only[List.mem_singleton];omega)
       have tp:Below w.heap.size w wr:=CI.out.aK Z3.out Z3.out.size (by simp;omega)
       have dU:Hid (Below w.heap.size w (wr.setRow w.heap.size (Dg.bw 32 .u8 (Dg.nt h 8)))):=(Kb.setRow wr w.heap.size _).aK tp tp.size (by simp)
       have bQ:Hid ((wr.setRow w.heap.size (Dg.bw 32 .u8 (Dg.nt h 8))).heap[w.heap.size]?=some (.cells (Dg.bw 32 .u8 (Dg.nt h 8)) 105 (0,0))):=bt wr w.heap.size _ hz
       generalize Dg.nt h 8=f at Zp HE dU bQ
       clear hv fq tp
       go_wp2_with (first | (refine wpList_load_row rfl 105 (.tmp 6) rfl wA.heap.size rfl _ _ _ _ Zp Tryz.underlying105 rfl (by rw[Dg.cG];kernel_rfl) ?_) | (refine wpList_store_row rfl 105 (.tmp 2) (.tmp 37) rfl w.heap.size rfl (Dg.bw 32 .u8 f) rfl _ _ hz (by rw[Dg.cG,Dg.cG]) (by rw[Dg.cG];kernel_rfl) (Dg.xW _ _ _) ?_))
       refine bodyPost_ret (v:=.agg (Dg.bw 32 .u8 f)) ?_ rfl ⟨by rw[HE.out],dU.out⟩
       exact results_cell_row rfl _ _ _ _ _ _ _ rfl bQ.out Tryz.underlying105 rfl (by rw[Dg.cG];kernel_rfl)
end
/- Package record: Head. -/
section
open Go.RowKit
namespace Dg
theorem Og(word:Int)(k:Nat):0≤byte word k∧byte word k<256:=by
 have e:byte word k=word/2^(24-8*k)%256:=by unfold byte;rw[ja];rfl
 rw[e]
 omega
theorem MB{f:Nat→Int}(h:∀j,0≤f j∧f j<256)(o:Nat)(word:Int)(k:Nat):∀j,0≤l7 f o word k j∧l7 f o word k j<256:=by
 intro j
 unfold l7
 split
 · exact Og _ _
 · exact h j
theorem CS(h:Nat→Int):∀k j,0≤nt h k j∧nt h k j<256
 | 0,j=>by unfold nt;omega
 | k+1,j=>by
  unfold nt
  exact MB (CS h k) _ _ _ j
theorem Qj(K:Nat→Int)(s:ByteArray)(j:Nat):0≤LN K s j∧LN K s j<256:=by
 have e:LN K s=nt (hash K s (blocks s)) 8:=by unfold LN;rw[ja]
 rw[e]
 exact CS _ _ _
def Fy(K:Nat→Int)(s:ByteArray):List UInt8:=(List.range 32).map fun j=>UInt8.ofNat (LN K s j).toNat
theorem mA(K:Nat→Int)(s:ByteArray):(Fy K s).length=32:=by simp[Fy]
theorem Mz(K:Nat→Int)(s:ByteArray):bw 32 .u8 (LN K s)=(Rc.bA (Fy K s)).toArray:=by
 unfold bw Fy Rc.bA
 rw[List.map_map]
 congr 1
 refine List.map_congr_left fun j _=> ?_
 obtain⟨h1,h2⟩:=Qj K s j
 have e:(UInt8.ofNat (LN K s j).toNat).toNat=(LN K s j).toNat:=by simp;omega
 simp only[Function.comp]
 rw[e]
 congr 1
 omega
end Dg
theorem Dm(K:Nat→Int)(s:ByteArray)(w:World)(hK:Dg.uw w K)(hs:s.size≤100000000000):Calls Tryz.prog 60 #[.string s] w fun e w'=>e=.returned (.agg (Rc.bA (Dg.Fy K s)).toArray)∧Below w.heap.size w w':=by
 rw[←Dg.Mz]
 exact Tx K s w hK hs
def dO(K:Nat→Int)(ahead:List UInt8)(content:ByteArray):List UInt8:=Dg.Fy K (⟨ahead.toArray⟩++content)
theorem wF(K:Nat→Int)(w:World)(ahead:List UInt8)(content:ByteArray)(hK:Dg.uw w K)(ha:ahead.length=32)(hs:content.size≤10000000000):
 Calls Tryz.prog 70 #[.agg (Rc.bA ahead).toArray,.string content] w fun e w'=>e=.returned (.agg (Rc.bA (dO K ahead content)).toArray)∧Below w.heap.size w w':=by
 have Fg:(Rc.bA ahead).length=32:=by rw[Rc.bB,ha]
 have j0:=heap_alloc2_old w (.cells (Rc.bA ahead).toArray 105) (.cells (Dg.bw 32 .u8 (fun _=>0)) 105)
 have j1:=heap_alloc2_new w (.cells (Rc.bA ahead).toArray 105) (.cells (Dg.bw 32 .u8 (fun _=>0)) 105)
 have jb:Below w.heap.size w ((w.alloc (.cells (Rc.bA ahead).toArray 105)).alloc (.cells (Dg.bw 32 .u8 (fun _=>0)) 105)):=((Below.refl _ _).alloc (Nat.le_refl _) _).alloc (by simp) _
 obtain⟨w0,cZ⟩:∃w0,w0=(w.alloc (.cells (Rc.bA ahead).toArray 105)).alloc (.cells (Dg.bw 32 .u8 (fun _=>0)) 105):=⟨_,rfl⟩
 rw[←cZ]at j0 j1 jb
 have E9:(convert 63 9 (.slice (some ⟨w.heap.size,0,none⟩) 32 32)).run Tryz.prog w0=.ok (.string ⟨ahead.toArray⟩) w0:=by
  rw[←ha]
  refine run_convert_bytes_back w0 63 9 5 ⟨w.heap.size,0,none⟩ _ ahead Tryz.underlying63 Tryz.underlying5 Tryz.underlying9 ?_
  intro j hj
  have dI:(⟨w.heap.size,0,none⟩:Addr).add j=⟨w.heap.size,j,none⟩:=by unfold Addr.add;split<;>simp_all
  rw[dI,cell_of_row _ _ _ _ _ _ j0,List.getElem?_toArray,Rc.bA,List.getElem?_map,List.getElem?_eq_getElem hj]
  rfl
 have cE:(⟨ahead.toArray⟩:ByteArray).size=32:=ha
 have hof:Hid (Calls Tryz.prog 60 #[.string (⟨ahead.toArray⟩++content)] w0 fun e w1=>e=.returned (.agg (Rc.bA (dO K ahead content)).toArray)∧w1.heap[w.heap.size+1]?=some (.cells (Dg.bw 32 .u8 (fun _=>0)) 105 (0,0))∧Hid (Below w.heap.size w w1)):=by
  refine(Dm K _ w0 (hK.below jb) ?_).mono ?_
  · rw[ByteArray.size_append,cE];omega
  · rintro e w1 ⟨rfl,a8⟩
    refine⟨rfl, ?_,jb.trans (a8.mono jb.size)⟩
    rw[a8.block _ (lt_of_heap j1)]
    exact j1
 have RL:(dO K ahead content).length=32:=Dg.mA _ _
 generalize dO K ahead content=hd at hof RL
 clear j0 j1 jb Fg cE
 go_enter Tryz.func70,Tryz.ntmps70
 go_upto_region 1 with fail
 rw[←Dg.Cf,←cZ]
 clear cZ
 go_wp2_with (first | (go_at_call 60;refine hof.out.mono ?_;rintro e w1 ⟨rfl,dZ,a8⟩) | (refine wpList_store_row rfl 105 (.tmp 4) (.tmp 9) rfl (w.heap.size+1) rfl (Rc.bA hd).toArray rfl _ _ dZ (by rw[Dg.cG];simp[Rc.bB,RL]) (by simp only[List.size_toArray,Rc.bB,RL];kernel_rfl) (by simpa using Rc.o4 hd) ?_))
 have dU:=(Kb.setRow w1 (w.heap.size+1) (Rc.bA hd).toArray).aK a8.out a8.out.size (by simp)
 refine bodyPost_ret (v:=.agg (Rc.bA hd).toArray) ?_ rfl ⟨rfl,dU⟩
 exact results_cell_row rfl _ _ _ _ _ _ _ rfl (bt w1 _ _ dZ) Tryz.underlying105 rfl (by simp only[List.size_toArray,Rc.bB,RL];kernel_rfl)
end
/- Package record: Append. -/
section
open Go.RowKit
theorem DW(B:Nat)(w:World)(v:Value)(n:Nat)(xs:List Value)(content:ByteArray)(hd:List UInt8)(al:w.ownsRow B 5 1 v n xs)(hB:B≤w.heap.size)(hn:n≤50000000000)(hc:content.size≤1000000000)(hl:hd.length=32):
 Calls Tryz.prog 71 #[v,.string content,.agg (Rc.bA hd).toArray] w fun e w'=>∃v' n',e=.returned v'∧qJ B w w' v' n' (xs++Rc.bA (Rc.aC content++hd))∧Kb v.ownBlock.toList w w'∧cw w v v':=by
 obtain⟨i0,jy,ew,dZ,dX⟩:=info_parts Tryz.kB
 have HI:Hid (Tryz.prog.info? 5=some i0):=jy
 have H0:Hid (i0.zero=some (.int .u8 0)):=ew
 have H1:Hid (i0.size=1):=dZ
 have H2:Hid (i0.bytes=1):=dX
 clear jy ew dZ dX
 obtain⟨vd,vc,Mu⟩:=ah al
 subst Mu
 obtain⟨w0,cZ⟩:∃w0,w0=w.alloc (.cells (Rc.bA hd).toArray 105):=⟨_,rfl⟩
 have bL:Below B w w0:=by rw[cZ];exact(Below.refl _ _).alloc hB _
 have ho0:Lib.OthersKept 5 none w w0:=by rw[cZ];exact(Lib.OthersKept.refl _ _ _).alloc _
 have U5:Below w.heap.size w w0:=by rw[cZ];exact(Below.refl _ _).alloc (Nat.le_refl _) _
 have Lp:w0.heap[w.heap.size]?=some (.cells (Rc.bA hd).toArray 105 (0,0)):=by rw[cZ];exact heap_alloc_new w _
 have ix:w0.ownsRow B 5 1 (.slice vd n vc) n xs:=by rw[cZ];exact al.alloc _
 have nR:xs.length=n:=by have:=al.1;omega
 have aa7:(Rc.bA hd).length=32:=by rw[Rc.bB,hl]
 have Zo:B≤w0.heap.size:=Nat.le_trans hB bL.size
 have re:Hid (∀W:World,Below w0.heap.size w0 W→Calls Tryz.prog 77 #[.slice vd n vc,.string content] W fun e w1=>∃v1 n1,e=.returned v1∧n1≤60000000000∧w1.ownsRow B 5 1 v1 n1 (xs++Rc.bA (Rc.aC content))∧B≤w1.heap.size∧w.heap.size<w1.heap.size∧Hid (∀j u,(Rc.bA hd)[j]?=some u→w1.cell? ((⟨w.heap.size,0,none⟩:Addr).add j)=some u)∧Hid (Below B w w1∧Lib.OthersKept 5 none w w1∧Kb (Value.slice vd n vc).ownBlock.toList w w1∧cw w (.slice vd n vc) v1)):=by
  intro W hW
  have hBW:B≤W.heap.size:=Nat.le_trans Zo hW.size
  refine(pQ B W (.slice vd n vc) n xs content (ae ix hW) hBW (by omega) (by omega)).mono ?_
  rintro e w1 ⟨v1,n1,rfl,q1,q2,q3,q4,q5⟩
  have p8:w1.heap[w.heap.size]?=some (.cells (Rc.bA hd).toArray 105 (0,0)):=q3 w.heap.size _ (by rw[hW.block _ (lt_of_heap Lp)];exact Lp) (by simp) (fun c fz e=>by simp at e)
  have xG:n1≤60000000000:=by
   have h1:=q1.1
   have h2:=Rc.sf content.size (by omega)
   rw[List.length_append,Rc.bB,Rc.aC,List.length_append]at h1
   simp at h1
   omega
  refine⟨v1,n1,rfl,xG,q1,Nat.le_trans hBW q2.size,lt_of_heap p8, ?_,⟨(bL.trans (hW.mono Zo)).trans q2,aP (aP ho0 (bT hW)) q3,(Kb.bF (U5.trans (hW.mono U5.size)) _).trans q4,q5.mono (Nat.le_trans U5.size hW.size)⟩⟩
  exact World.news_of_block p8
 clear al ix bL ho0 Lp
 go_enter Tryz.func71,Tryz.ntmps71
 go_wp2_with fail
 rw[←cZ]
 clear cZ
 go_region_held3 (fun _=>True) (trivial) (first | (go_at_call 77;refine(re.out _ (by exact(Below.refl _ _).drew)).mono ?_;rintro e w1 ⟨v1,n1,rfl,xG,bq,T5,Nw,V0,Mh⟩) | (refine step_append_lies _ rfl (.tmp 9) (.tmp 10) 63 rfl B 5 i0 _ 1 1 Tryz.underlying63 HI.out H0.out H1.out H2.out rfl (by decide) v1 n1 (xs++Rc.bA (Rc.aC content)) (by simp[Act.eval,Act.put]) (by exact bq) ⟨w.heap.size,0,none⟩ 32 32 (Rc.bA hd) (by simp[Act.eval,Act.put]) (by rw[aa7]) (by exact V0.out) (Rc.o4 hd) (by decide) (by unfold maxLen;omega) (by omega) (by exact T5) w1.heap.size rfl ?_;intro g2 mm w2 aR bR Pe oH))
 all_goals
  (have cM:Below B w w2:=Mh.out.1.grown bR T5 (fun k hk=>(bq.lt k hk).1)
   have yE:Lib.OthersKept 5 none w w2:=Mh.out.2.1.grown bR (bj bq)
   have Wh:Hid (Kb (Value.slice vd n vc).ownBlock.toList w w2∧cw w (.slice vd n vc) (.slice (some ⟨g2,0,none⟩) (n1+32) mm)):=Hx Mh.out.2.2.1 Mh.out.2.2.2 bR (fun b hb=>by
    simp only[Value.ownBlock,Option.some.injEq]at hb
    subst hb
    rcases Pe with h | h
    · exact .inl h
    · exact .inr (by omega))
   have pg:Hid (qJ B w w2 (.slice (some ⟨g2,0,none⟩) (n1+32) mm) (n1+32) (xs++Rc.bA (Rc.aC content++hd))):=⟨by rw[Rc.eK,←List.append_assoc];exact aR,cM,yE⟩
   clear bR aR cM yE
   go_wp2_with fail
   go_ret
   exact⟨_,_,rfl,pg.out,Wh.out⟩)
end
end Go.Proofs.YtdmicblafmhflaaGreatDoor
