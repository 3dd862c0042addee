/- Package digest: schedule. -/
import Derived.Test.YtdmicblafmhflaaGreatDoorC30
import Derived.Test.YtdmicblafmhflaaGreatDoorC12
import Derived.Test.YtdmicblafmhflaaGreatDoorC11
import Derived.Deep.LoopGhost
set_option linter.unusedSimpArgs false
set_option linter.unusedVariables false
set_option maxHeartbeats 4000000
set_option maxRecDepth 100000
namespace Go.Proofs.YtdmicblafmhflaaGreatDoor
section
open Go.RowKit
namespace Dg
def Pj(a:Int):Int:=bits .xor .u32 (bits .xor .u32 (turn a 7) (turn a 18)) (a/8)
def LV(a:Int):Int:=bits .xor .u32 (bits .xor .u32 (turn a 17) (turn a 19)) (a/1024)
def bN(bf:Nat→Int):Nat→Nat→Int
 | 0=>fun _=>0
 | k+1=>yC (bN bf k) k (if k<16 then word (bf (4*k)) (bf (4*k+1)) (bf (4*k+2)) (bf (4*k+3))else (bN bf k (k-16)+Pj (bN bf k (k-15))+bN bf k (k-7)+LV (bN bf k (k-2)))%4294967296)
def sched:(Nat→Int)→Nat→Int:=shut fun bf=>bN bf 64
theorem Vw:bw 64 .u32 (fun _=>0)=#[.int .u32 0,.int .u32 0,.int .u32 0,.int .u32 0,.int .u32 0,.int .u32 0,.int .u32 0,.int .u32 0,.int .u32 0,.int .u32 0,.int .u32 0,.int .u32 0,.int .u32 0,.int .u32 0,.int .u32 0,.int .u32 0,.int .u32 0,.int .u32 0,.int .u32 0,.int .u32 0,.int .u32 0,.int .u32 0,.int .u32 0,.int .u32 0,.int .u32 0,.int .u32 0,.int .u32 0,.int .u32 0,.int .u32 0,.int .u32 0,.int .u32 0,.int .u32 0,.int .u32 0,.int .u32 0,.int .u32 0,.int .u32 0,.int .u32 0,.int .u32 0,.int .u32 0,.int .u32 0,.int .u32 0,.int .u32 0,.int .u32 0,.int .u32 0,.int .u32 0,.int .u32 0,.int .u32 0,.int .u32 0,.int .u32 0,.int .u32 0,.int .u32 0,.int .u32 0,.int .u32 0,.int .u32 0,.int .u32 0,.int .u32 0,.int .u32 0,.int .u32 0,.int .u32 0,.int .u32 0,.int .u32 0,.int .u32 0,.int .u32 0,.int .u32 0]:=rfl
end Dg
theorem Jo(w:World)(g o c:Nat)(bf:Nat→Int)(hc:64≤c)(dg:∀j,j<64→w.cell? ⟨g,o+j,none⟩=some (.int .u8 (bf j))):
 Calls Tryz.prog 120 #[.slice (some ⟨g,o,none⟩) 64 c] w fun e w'=>e=.returned (.agg (Dg.bw 64 .u32 (Dg.sched bf)))∧Below w.heap.size w w':=by
 have HE:Hid (Dg.sched bf=Dg.bN bf 64):=by
  have:Dg.sched bf=Dg.bN bf 64:=by unfold Dg.sched;rw[Dg.ja]
  exact this
 have HC:Hid (∀j,j<64→w.cell? ⟨g,o+j,none⟩=some (.int .u8 (bf j))):=dg
 have mO:g<w.heap.size:=block_lt_of_cell (dg 0 (by decide))
 clear dg
 go_enter Tryz.func120,Tryz.ntmps120
 go_upto_region 2 with fail
 rw[←Dg.Vw]
 have j0:=heap_alloc2_old w (.cells (Dg.bw 64 .u32 (fun _=>0)) 234) (.cells (Dg.bw 64 .u32 (fun _=>0)) 234)
 have j1:=heap_alloc2_new w (.cells (Dg.bw 64 .u32 (fun _=>0)) 234) (.cells (Dg.bw 64 .u32 (fun _=>0)) 234)
 have jb:Below w.heap.size w ((w.alloc (.cells (Dg.bw 64 .u32 (fun _=>0)) 234)).alloc (.cells (Dg.bw 64 .u32 (fun _=>0)) 234)):=((Below.refl _ _).alloc (Nat.le_refl _) _).alloc (by simp) _
 generalize (w.alloc (.cells (Dg.bw 64 .u32 (fun _=>0)) 234)).alloc (.cells (Dg.bw 64 .u32 (fun _=>0)) 234)=w0 at j0 j1 jb ⊢
 have J0:Hid (w0.heap[w.heap.size]?=some (.cells (Dg.bw 64 .u32 (fun _=>0)) 234 (0,0))):=j0
 have J1:Hid (w0.heap[w.heap.size+1]?=some (.cells (Dg.bw 64 .u32 (Dg.bN bf 0)) 234 (0,0))):=j1
 have JB:Hid (Below w.heap.size w w0):=jb
 have hB:Hid (∀wr:World,Kb [w.heap.size+1] w0 wr→Below w.heap.size w wr):=fun wr h=>h.aK JB.out JB.out.size (by simp)
 clear j0 j1 jb
 go_wp2_with fail
 go_loopw [10] (fun i wr=>∃k:Nat,k≤16∧i=.int .i64 k∧wr.heap[w.heap.size+1]?=some (.cells (Dg.bw 64 .u32 (Dg.bN bf k)) 234 (0,0))∧Kb [w.heap.size+1] w0 wr) (fun i _=>16-(intOf i).toNat)
 case atStart=>exact⟨0,by omega,rfl,J1.out,Kb.refl _ _⟩
 case round=>
  obtain⟨k,hk,rfl,hv,fq⟩:=hrel
  have EX:Hid (Kb [w.heap.size+1] w0 wr):=fq
  have LK:=lt_of_heap hv
  have Cv:Hid (Below w.heap.size w wr):=hB.out wr fq
  by_cases aE:k<16
  · have vD:∀(W:World),W.heap=wr.heap→∀j,j<64→W.cell? ⟨g,o+j,none⟩=some (.int .u8 (bf j)):=fun W hW j hj=>by
     have e:W.cell? ⟨g,o+j,none⟩=wr.cell? ⟨g,o+j,none⟩:=World.cell?_of_block (by rw[hW])
     rw[e,Cv.out.cell mO]
     exact HC.out j hj
    have SR:Hid (Calls Tryz.prog 194 #[.slice (some ⟨g,o+4*k,none⟩) (64-4*k) (c-4*k)] wr fun e w2=>e=.returned (.int .u32 (Dg.word (bf (4*k)) (bf (4*k+1)) (bf (4*k+2)) (bf (4*k+3))))∧∃m,w2=wr.drewN m):=Ll wr g (o+4*k) (64-4*k) (c-4*k) _ _ _ _ (by omega) (vD wr rfl (4*k) (by omega)) (by rw[Nat.add_assoc];exact vD wr rfl (4*k+1) (by omega)) (by rw[Nat.add_assoc];exact vD wr rfl (4*k+2) (by omega)) (by rw[Nat.add_assoc];exact vD wr rfl (4*k+3) (by omega))
    have fR:Hid (Dg.bN bf (k+1)=Dg.yC (Dg.bN bf k) k (Dg.word (bf (4*k)) (bf (4*k+1)) (bf (4*k+2)) (bf (4*k+3)))):=by
     have:Dg.bN bf (k+1)=Dg.yC (Dg.bN bf k) k (Dg.word (bf (4*k)) (bf (4*k+1)) (bf (4*k+2)) (bf (4*k+3))):=by
      rw[Dg.bN,if_pos aE]
     exact this
    generalize Dg.word (bf (4*k)) (bf (4*k+1)) (bf (4*k+2)) (bf (4*k+3))=wd at SR fR
    have a0:=Dg.aF hv (show k<64 by omega)
    have a2:=Dg.bl hv k
    have ev:Hid (∀m:Nat,((wr.drewN m).setCell ⟨w.heap.size+1,k,none⟩ (.int .u32 wd)).heap[w.heap.size+1]?=some (.cells (Dg.bw 64 .u32 (Dg.bN bf (k+1))) 234 (0,0))∧Kb [w.heap.size+1] w0 ((wr.drewN m).setCell ⟨w.heap.size+1,k,none⟩ (.int .u32 wd))):=by
     intro m
     refine⟨by rw[Dg.oZ (w:=wr.drewN m) hv (by omega),fR.out], ?_⟩
     exact(EX.out.drewN m).trans (Kb.setCell (wr.drewN m) ⟨w.heap.size+1,k,none⟩ _)
    clear hv fq vD
    go_wp2_with (go_at_call 194;refine SR.out.mono ?_;rintro e w2 ⟨rfl,m,rfl⟩)
    go_roundw
    case rel=>exact⟨k+1,by omega,by go_num,(ev.out _).1,(ev.out _).2⟩
    case measure=>simp[intOf];omega
  · have HV:Hid (wr.heap[w.heap.size+1]?=some (.cells (Dg.bw 64 .u32 (Dg.bN bf 16)) 234 (0,0))):=by
     have acz:k=16:=by omega
     rw[acz]at hv
     exact hv
    clear hv fq
    obtain⟨wA,rfl⟩:∃x,x=wr:=⟨_,rfl⟩
    go_wp2_with fail
    go_loopw [5] (fun i wr=>∃m:Nat,m≤48∧i=.int .i64 ((m:Int)+16)∧wr.heap[w.heap.size+1]?=some (.cells (Dg.bw 64 .u32 (Dg.bN bf (m+16))) 234 (0,0))∧Kb [w.heap.size+1] w0 wr) (fun i _=>64-(intOf i).toNat)
    case atStart=>exact⟨0,by omega,rfl,HV.out,EX.out⟩
    case round=>
     obtain⟨m,hm,rfl,hv,fq⟩:=hrel
     have CI:Hid (Kb [w.heap.size+1] w0 wr):=fq
     have LK:=lt_of_heap hv
     by_cases aE:m<48
     · have c0:=Dg.aF hv (show m<64 by omega)
       have c1:=Dg.aF hv (show m+1<64 by omega)
       have c9:=Dg.aF hv (show m+9<64 by omega)
       have Iw:=Dg.aF hv (show m+14<64 by omega)
       have c16:=Dg.aF hv (show m+16<64 by omega)
       have f16:=Dg.bl hv (m+16)
       have fR:Hid (Dg.bN bf (m+1+16)=Dg.yC (Dg.bN bf (m+16)) (m+16) ((Dg.bN bf (m+16) m+Dg.Pj (Dg.bN bf (m+16) (m+1))+Dg.bN bf (m+16) (m+9)+Dg.LV (Dg.bN bf (m+16) (m+14)))%4294967296)):=by
        have:Dg.bN bf (m+1+16)=Dg.yC (Dg.bN bf (m+16)) (m+16) ((Dg.bN bf (m+16) m+Dg.Pj (Dg.bN bf (m+16) (m+1))+Dg.bN bf (m+16) (m+9)+Dg.LV (Dg.bN bf (m+16) (m+14)))%4294967296):=by
         rw[show m+1+16=(m+16)+1 by omega,Dg.bN,if_neg (by omega),show m+16-16=m by omega,show m+16-15=m+1 by omega,show m+16-7=m+9 by omega,show m+16-2=m+14 by omega]
        exact this
       have ev:Hid (∀(n:Nat) (W:World),W.heap=wr.heap→Kb [w.heap.size+1] w0 W→(W.setCell ⟨w.heap.size+1,m+16,none⟩ (.int .u32 ((Dg.bN bf (m+16) m+Dg.Pj (Dg.bN bf (m+16) (m+1))+Dg.bN bf (m+16) (m+9)+Dg.LV (Dg.bN bf (m+16) (m+14)))%4294967296))).heap[w.heap.size+1]?=some (.cells (Dg.bw 64 .u32 (Dg.bN bf (m+1+16))) 234 (0,0))∧Kb [w.heap.size+1] w0 (W.setCell ⟨w.heap.size+1,m+16,none⟩ (.int .u32 ((Dg.bN bf (m+16) m+Dg.Pj (Dg.bN bf (m+16) (m+1))+Dg.bN bf (m+16) (m+9)+Dg.LV (Dg.bN bf (m+16) (m+14)))%4294967296)))):=by
        intro n W hW hkW
        exact⟨by rw[Dg.oZ (w:=W) (by rw[hW];exact hv) (by omega),fR.out],hkW.trans (Kb.setCell W ⟨w.heap.size+1,m+16,none⟩ _)⟩
       have ht:=fun x b w=>D7 x b w
       clear hv fq
       go_upto_region 10 with fail
       go_quiet (fail)
       go_upto_region 13 with(go_at_call 195;refine(ht _ _ _).mono ?_;rintro e w' ⟨rfl,rfl⟩)
       go_region
       all_goals
        (go_wp2_with fail
         go_roundw
         case rel=>
          refine⟨m+1,by omega,by go_num,(ev.out 0 _ ?_ ?_).1,(ev.out 0 _ ?_ ?_).2⟩
          · rfl
          · exact⟨CI.out.os,CI.out.tape,CI.out.output,CI.out.size,CI.out.block⟩
          · rfl
          · exact⟨CI.out.os,CI.out.tape,CI.out.output,CI.out.size,CI.out.block⟩
         case measure=>simp[intOf];omega)
     · have hz:wr.heap[w.heap.size]?=some (.cells (Dg.bw 64 .u32 (fun _=>0)) 234 (0,0)):=CI.out.heap J0.out (by simp only[List.mem_singleton];omega)
       have dU:Hid (Below w.heap.size w (wr.setRow w.heap.size (Dg.bw 64 .u32 (Dg.bN bf 64)))):=(Kb.setRow wr w.heap.size _).aK (hB.out wr CI.out) (hB.out wr CI.out).size (by simp)
       have bQ:Hid ((wr.setRow w.heap.size (Dg.bw 64 .u32 (Dg.bN bf 64))).heap[w.heap.size]?=some (.cells (Dg.bw 64 .u32 (Dg.bN bf 64)) 234 (0,0))):=bt wr w.heap.size _ hz
       have Zp:wr.heap[w.heap.size+1]?=some (.cells (Dg.bw 64 .u32 (Dg.bN bf 64)) 234 (0,0)):=by
        have acT:m=48:=by omega
        rw[acT]at hv
        exact hv
       generalize Dg.bN bf 64=f at Zp HE dU bQ
       clear hv fq
       go_wp2_with (first | (refine wpList_load_row rfl 234 (.tmp 3) rfl (w.heap.size+1) rfl _ _ _ _ Zp Tryz.underlying234 rfl (by rw[Dg.cG];kernel_rfl) ?_) | (refine wpList_store_row rfl 234 (.tmp 2) (.tmp 64) rfl w.heap.size rfl (Dg.bw 64 .u32 f) rfl _ _ hz (by rw[Dg.cG,Dg.cG]) (by rw[Dg.cG];kernel_rfl) (Dg.xW _ _ _) ?_))
       refine bodyPost_ret (v:=.agg (Dg.bw 64 .u32 f)) ?_ rfl ⟨by rw[HE.out],dU.out⟩
       exact results_cell_row rfl _ _ _ _ _ _ _ rfl bQ.out Tryz.underlying234 rfl (by rw[Dg.cG];kernel_rfl)
end
/- Package digest: a word written as four bytes. -/
section
open Go.RowKit
namespace Dg
def Yc(word:Int)(k:Nat):Int:=word/2^(24-8*k)%256
def byte:Int→Nat→Int:=shut Yc
def l7(f:Nat→Int)(o:Nat)(word:Int)(k:Nat):Nat→Int:=fun j=>if o≤j∧j<o+k then byte word (j-o)else f j
theorem Je(f:Nat→Int)(o:Nat)(word:Int):l7 f o word 0=f:=by
 funext j
 unfold l7
 rw[if_neg (by omega)]
theorem I5(f:Nat→Int)(o:Nat)(word:Int)(k:Nat):l7 f o word (k+1)=yC (l7 f o word k) (o+k) (byte word k):=by
 funext j
 unfold l7 yC
 by_cases e:j=o+k
 · subst e
   rw[if_pos (by omega),if_pos rfl,show o+k-o=k by omega]
 · have e2:(o≤j∧j<o+(k+1))↔(o≤j∧j<o+k):=by omega
   simp only[if_neg e,e2]
end Dg
theorem oq(w:World)(g o n c m:Nat)(T:TypeId)(f:Nat→Int)(word:Int)(hn:4≤n)(hm:o+4≤m)(hg:w.heap[g]?=some (.cells (Dg.bw m .u8 f) T (0,0))):
 Calls Tryz.prog 121 #[.slice (some ⟨g,o,none⟩) n c,.int .u32 word] w fun e w'=>e=.returned (.tuple #[])∧w'.heap[g]?=some (.cells (Dg.bw m .u8 (Dg.l7 f o word 4)) T (0,0))∧Kb [g] w w':=by
 have HG:Hid (w.heap[g]?=some (.cells (Dg.bw m .u8 (Dg.l7 f o word 0)) T (0,0))):=by
  rw[Dg.Je];exact hg
 clear hg
 go_enter Tryz.func121,Tryz.ntmps121
 go_wp2_with fail
 go_loopw [5] (fun i wr=>∃k:Nat,k≤4∧i=.int .i64 k∧wr.heap[g]?=some (.cells (Dg.bw m .u8 (Dg.l7 f o word k)) T (0,0))∧Kb [g] w wr) (fun i _=>4-(intOf i).toNat)
 case atStart=>exact⟨0,by omega,rfl,HG.out,Kb.refl _ _⟩
 case round=>
  obtain⟨k,hk,rfl,hv,fq⟩:=hrel
  have EX:Hid (Kb [g] w wr):=fq
  have HV:Hid (wr.heap[g]?=some (.cells (Dg.bw m .u8 (Dg.l7 f o word k)) T (0,0))):=hv
  have hl:=lt_of_heap hv
  by_cases aE:k<4
  · have a0:=Dg.aF hv (show o+k<m by omega)
    have a1:=Dg.bl hv (o+k)
    have h0:(0:Int)≤24-8*(k:Int):=by omega
    have yF:Hid ((wr.setCell ⟨g,o+k,none⟩ (.int .u8 (word/2^(24-8*k)%256))).heap[g]?=some (.cells (Dg.bw m .u8 (Dg.l7 f o word (k+1))) T (0,0))∧Kb [g] w (wr.setCell ⟨g,o+k,none⟩ (.int .u8 (word/2^(24-8*k)%256)))):=by
     have e:Dg.byte word k=word/2^(24-8*k)%256:=by unfold Dg.byte;rw[Dg.ja];rfl
     refine⟨?_,EX.out.trans (Kb.setCell wr ⟨g,o+k,none⟩ _)⟩
     rw[Dg.oZ hv (by omega),Dg.I5,e]
    clear hv fq
    go_wp2_with fail
    go_roundw
    case rel=>exact⟨k+1,by omega,by go_num,yF.out.1,yF.out.2⟩
    case measure=>simp[intOf];omega
  · have HE:Hid (wr.heap[g]?=some (.cells (Dg.bw m .u8 (Dg.l7 f o word 4)) T (0,0))):=by
     have hk4:k=4:=by omega
     rw[hk4]at hv
     exact hv
    clear hv fq
    go_wp2_with fail
    go_end0
    exact⟨rfl,HE.out,EX.out⟩
end
/- Package digest: pad. -/
section
open Go.RowKit
theorem GH{w:World}(s:ByteArray)(hs:s.size≤maxLen):lW (Lib.bytesWorld w 5 s) w.heap.size 5 (.slice (some ⟨w.heap.size,0,none⟩) s.size (grownCap w s.size 0 5)) s.size (byteCells s)∧Below w.heap.size w (Lib.bytesWorld w 5 s):=by
 have yh:=grownCap_ge w s.size 0 5
 have hle:grownCap w s.size 0 5≤maxLen:=grownCap_le_maxLen w s.size 0 5 hs
 have cE:(Lib.bytesCells w 5 s).size=grownCap w s.size 0 5:=by
  simp[Lib.bytesCells]
  omega
 refine⟨⟨by simp[byteCells],w.heap.size,_,_,_,rfl,Nat.le_refl _,Lib.bytesWorld_at_new w 5 s,.inr (Nat.le_refl _),yh,hle,cE, ?_⟩,⟨rfl,rfl,rfl,by rw[Lib.bytesWorld_size];omega,fun k hk=>Lib.bytesWorld_at_old w 5 s k hk⟩⟩
 unfold Lib.bytesCells byteCells
 rw[Array.toList_append]
 have h1:(s.data.map fun b=>Value.int .u8 (b.toNat:Int)).toList=s.data.toList.map fun b=>Value.int .u8 (b.toNat:Int):=by simp
 rw[h1]
 have h2:(s.data.toList.map fun b=>Value.int .u8 (b.toNat:Int)).length=s.size:=by simp
 rw[←h2]
 exact List.take_left
namespace Dg
def zc(n:Nat):Nat:=(119-n%64)%64
def ly(k:Nat):List Value:=List.replicate k (.int .u8 0)
def RT(n:Nat):Nat→Int:=l7 (l7 (fun _=>0) 0 ((n:Int)*8/4294967296) 4) 4 ((n:Int)*8%4294967296) 4
def xA(s:ByteArray):List Value:=byteCells s++[.int .u8 128]++ly (zc s.size)++(bw 8 .u8 (RT s.size)).toList
theorem Ih(n:Nat):(n+1+zc n)%64=56∧∀j,j<zc n→(n+1+j)%64≠56:=by
 unfold zc
 refine⟨by omega,fun j hj=>by omega⟩
theorem GZ(k:Nat):ly (k+1)=ly k++[.int .u8 0]:=by
 unfold ly
 rw[List.replicate_succ']
end Dg
theorem Ou{w:World}{g n:Nat}{k:IntKind}{f:Nat→Int}{T:TypeId}(hg:w.heap[g]?=some (.cells (Dg.bw n k f) T (0,0))):∀j u,(Dg.bw n k f).toList[j]?=some u→w.cell? ((⟨g,0,none⟩:Addr).add j)=some u:=by
 intro j u hj
 have dI:(⟨g,0,none⟩:Addr).add j=⟨g,j,none⟩:=by unfold Addr.add;split<;>simp_all
 rw[dI,cell_of_row _ _ _ _ _ _ hg]
 simpa using hj
theorem AF{w w1 w2:World}{v v2:Value}{n m:Nat}{xs ys:List Value}{o:Obj}(h:lW w1 w.heap.size 5 v n xs)(hb:Below w.heap.size w w1)(h2:lW w2 w.heap.size 5 v2 m ys)(hg:(w1.alloc o).grownBy w2 v.ownBlock):Below w.heap.size w w2:=by
 refine(hb.alloc hb.size o).grown hg (by have:=hb.size;simp;omega) ?_
 intro k hk
 obtain⟨g,cap,e,hB,_⟩:=h.lt
 rw[e]at hk
 simp only[Value.ownBlock,Option.some.injEq]at hk
 omega
theorem RS(w:World)(s:ByteArray)(hs:s.size≤100000000000):
 Calls Tryz.prog 118 #[.string s] w fun e w'=>∃v n,e=.returned v∧lW w' w.heap.size 5 v n (Dg.xA s)∧Below w.heap.size w w':=by
 obtain⟨i0,jy,ew,dZ,dX⟩:=info_parts Tryz.kB
 have HI:Hid (Tryz.prog.info? 5=some i0):=jy
 have H0:Hid (i0.zero=some (.int .u8 0)):=ew
 have H1:Hid (i0.size=1):=dZ
 have H2:Hid (i0.bytes=1):=dX
 clear jy ew dZ dX
 have E9:=Lib.run_convert_string_bytes (P:=Tryz.prog) w 9 63 5 s Tryz.underlying9 Tryz.underlying63 Tryz.underlying5
 obtain⟨Ha,bL⟩:=GH (w:=w) s (by unfold maxLen;omega)
 generalize Lib.bytesWorld w 5 s=w0 at E9 Ha bL
 generalize grownCap w s.size 0 5=c0 at E9 Ha
 have E4:=bL.size
 go_enter Tryz.func118,Tryz.ntmps118
 go_wp2_with (at_builtin;go_must (refine gy _ rfl (.tmp 7) (.tmp 8) 63 rfl w.heap.size 5 i0 _ 1 Tryz.underlying63 HI.out H0.out H1.out H2.out rfl _ _ _ rfl (Ha.alloc _) ⟨w0.heap.size,0,none⟩ 1 1 [.int .u8 128] rfl rfl (World.news_of_block (heap_alloc_new _ _)) (by simp[Value.oneCell']) (by unfold maxLen;omega) (by omega) (by simp;omega) ?_;intro v2 w2 aR bR))
 have cM:=AF Ha bL aR bR
 have Lb:Hid (lW w2 w.heap.size 5 v2 (s.size+1+0) (byteCells s++[.int .u8 128]++Dg.ly 0)):=by
  have:byteCells s++[Value.int .u8 128]++Dg.ly 0=byteCells s++[.int .u8 128]:=by simp[Dg.ly]
  rw[this]
  exact aR
 have CU:Hid (Below w.heap.size w w2):=cM
 have hzc:Dg.zc s.size<64:=by unfold Dg.zc;omega
 obtain⟨dZ,dX⟩:=Dg.Ih s.size
 have Q8:Hid (∀j,j<Dg.zc s.size→(s.size+1+j)%64≠56):=dX
 have Gn:Hid (Dg.xA s=byteCells s++[.int .u8 128]++Dg.ly (Dg.zc s.size)++(Dg.bw 8 .u8 (Dg.RT s.size)).toList):=(rfl:Dg.xA s=_)
 generalize Dg.zc s.size=Z at hzc dZ Q8 Gn
 clear dX E9 Ha bL aR bR cM E4
 go_loopg [3] Z (fun k v wr=>∃j:Nat,j+k=Z∧lW wr w.heap.size 5 v (s.size+1+j) (byteCells s++[.int .u8 128]++Dg.ly j)∧Below w.heap.size w wr)
 case atStart=>exact⟨0,by omega,Lb.out,CU.out⟩
 case round=>
  obtain⟨j,hj,al,aU⟩:=hrel
  have HR:Hid (lW wr w.heap.size 5 _ (s.size+1+j) (byteCells s++[.int .u8 128]++Dg.ly j)):=al
  have HB:Hid (Below w.heap.size w wr):=aU
  have hsw:=aU.size
  obtain⟨g,cap,e0,GM,mO,mG,dg⟩:=al.lt
  subst e0
  cases gk with
  | succ k=>
   have cA:((((s.size+1+j:Nat):Int)%64) != 56)=true:=by
    have:=Q8.out j (by omega)
    simp;omega
   clear dg aU
   go_wp2_with (at_builtin;go_must (refine gy _ rfl (.tmp 14) (.tmp 15) 63 rfl w.heap.size 5 i0 _ 1 Tryz.underlying63 HI.out H0.out H1.out H2.out rfl _ _ _ rfl (al.alloc _) ⟨wr.heap.size,0,none⟩ 1 1 [.int .u8 0] rfl rfl (World.news_of_block (heap_alloc_new _ _)) (by simp[Value.oneCell']) (by unfold maxLen;omega) (by omega) (by simp;omega) ?_;intro v3 w3 fB gp))
   have eA:=AF HR.out HB.out fB gp
   go_roundg k
   case measure=>omega
   case rel=>
    refine⟨j+1,by omega, ?_,eA⟩
    rw[Dg.GZ,←List.append_assoc]
    exact fB
  | zero=>
   have hjz:j=Z:=by omega
   have heq:((((s.size+1+j:Nat):Int)%64) != 56)=false:=by
    rw[hjz]
    simp;omega
   have HRZ:Hid (lW wr w.heap.size 5 (.slice (some ⟨g,0,none⟩) (s.size+1+j) cap) (s.size+1+j) (byteCells s++[.int .u8 128]++Dg.ly Z)):=by
    have:=HR.out
    rw[hjz]at this ⊢
    exact this
   have hjb:j<64:=by omega
   clear dg aU al hjz
   have fS:Hid (∀word:Int,Calls Tryz.prog 121 #[.slice (some ⟨wr.heap.size,0,none⟩) 8 8,.int .u32 word] (wr.alloc (.cells #[.int .u8 0,.int .u8 0,.int .u8 0,.int .u8 0,.int .u8 0,.int .u8 0,.int .u8 0,.int .u8 0] 329)) fun e w4=>e=.returned (.tuple #[])∧Hid (w4.heap[wr.heap.size]?=some (.cells (Dg.bw 8 .u8 (Dg.l7 (fun _=>0) 0 word 4)) 329 (0,0))∧Kb [wr.heap.size] (wr.alloc (.cells #[.int .u8 0,.int .u8 0,.int .u8 0,.int .u8 0,.int .u8 0,.int .u8 0,.int .u8 0,.int .u8 0] 329)) w4)∧wr.heap.size<w4.heap.size∧∀Is:Int,Calls Tryz.prog 121 #[.slice (some ⟨wr.heap.size,4,none⟩) 4 4,.int .u32 Is] w4 fun e w5=>e=.returned (.tuple #[])∧Hid (w5.heap[wr.heap.size]?=some (.cells (Dg.bw 8 .u8 (Dg.l7 (Dg.l7 (fun _=>0) 0 word 4) 4 Is 4)) 329 (0,0))∧Kb [wr.heap.size] (wr.alloc (.cells #[.int .u8 0,.int .u8 0,.int .u8 0,.int .u8 0,.int .u8 0,.int .u8 0,.int .u8 0,.int .u8 0] 329)) w5)∧wr.heap.size<w5.heap.size):=by
    intro word
    refine(oq _ wr.heap.size 0 8 8 8 329 (fun _=>0) word (by decide) (by decide) (heap_alloc_new wr _)).mono ?_
    rintro e w4 ⟨rfl,q1,q2⟩
    refine⟨rfl,⟨q1,q2⟩,lt_of_heap q1,fun Is=> ?_⟩
    refine(oq w4 wr.heap.size 4 4 4 8 329 _ Is (by decide) (by decide) q1).mono ?_
    rintro e w5 ⟨rfl,q3,q4⟩
    exact⟨rfl,⟨q3,q2.trans q4⟩,lt_of_heap q3⟩
   go_upto_region 6 with fail
   go_upto_region 7 with(go_at_call 121;refine(fS.out _).mono ?_;rintro e w4 ⟨rfl,Q4,hl4,iz⟩)
   go_upto_region 8 with(go_at_call 121;refine(iz _).mono ?_;rintro e w5 ⟨rfl,Q5,Wv⟩)
   have h5:w5.heap[wr.heap.size]?=some (.cells (Dg.bw 8 .u8 (Dg.RT s.size)) 329 (0,0)):=Q5.out.1
   have hr5:lW w5 w.heap.size 5 (.slice (some ⟨g,0,none⟩) (s.size+1+j) cap) (s.size+1+j) (byteCells s++[.int .u8 128]++Dg.ly Z):=(HRZ.out.alloc _).kept Q5.out.2 (by intro b hb;simp only[Value.ownBlock,Option.some.injEq]at hb;simp only[List.mem_singleton];omega)
   have la:Below w.heap.size w w5:=Q5.out.2.aK (HB.out.alloc hsw _) (by simp;omega) (by simp;omega)
   have hs5:=la.size
   have PL:Hid (Below w.heap.size w w5):=la
   have HGB:Hid (w.heap.size≤g):=GM
   go_wp2_with (at_builtin;go_must (refine gy _ rfl (.tmp 30) (.tmp 31) 63 rfl w.heap.size 5 i0 _ 1 Tryz.underlying63 HI.out H0.out H1.out H2.out rfl _ _ _ rfl hr5 ⟨wr.heap.size,0,none⟩ 8 8 (Dg.bw 8 .u8 (Dg.RT s.size)).toList rfl (by rw[Array.length_toList,Dg.cG]) (Ou h5) (Dg.xW _ _ _) (by unfold maxLen;omega) (by omega) (by omega) ?_;intro v6 w6 Zv TP))
   have ot:Below w.heap.size w w6:=PL.out.grown TP hs5 (fun k hk=>by have BI:some g=some k:=hk;simp only[Option.some.injEq]at BI;have:=HGB.out;omega)
   go_ret
   exact⟨v6,_,rfl,by rw[Gn.out];exact Zv,ot⟩
end
end Go.Proofs.YtdmicblafmhflaaGreatDoor
