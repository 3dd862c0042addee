/- Package digest: schedule. -/
import Derived.Test.YtdmicblafmhflaaGreatDoorC30
import Derived.Test.YtdmicblafmhflaaGreatDoorC13
import Derived.Test.YtdmicblafmhflaaGreatDoorC12
import Derived.Deep.LoopGhost
set_option linter.unusedSimpArgs false
set_option linter.unusedVariables false
set_option maxHeartbeats 4000000
set_option maxRecDepth 100000
namespace Go.Proofs.YtdmicblafmhflaaGreatDoor
section
open Go.RowKit
namespace Dg
def Mk(a:Int):Int:=bits .xor .u32 (bits .xor .u32 (turn a 7) (turn a 18)) (a/8)
def Ma(a:Int):Int:=bits .xor .u32 (bits .xor .u32 (turn a 17) (turn a 19)) (a/1024)
def bO(bf:Nat→Int):Nat→Nat→Int
 | 0=>fun _=>0
 | k+1=>yj (bO bf k) k (if k<16 then word (bf (4*k)) (bf (4*k+1)) (bf (4*k+2)) (bf (4*k+3))else (bO bf k (k-16)+Mk (bO bf k (k-15))+bO bf k (k-7)+Ma (bO bf k (k-2)))%4294967296)
def sched:(Nat→Int)→Nat→Int:=shut fun bf=>bO bf 64
theorem T7:bw 64 .u32 (fun _=>0)=#[.int .u32 0,.int .u32 0,.int .u32 0,.int .u32 0,.int .u32 0,.int .u32 0,.int .u32 0,.int .u32 0,.int .u32 0,.int .u32 0,.int .u32 0,.int .u32 0,.int .u32 0,.int .u32 0,.int .u32 0,.int .u32 0,.int .u32 0,.int .u32 0,.int .u32 0,.int .u32 0,.int .u32 0,.int .u32 0,.int .u32 0,.int .u32 0,.int .u32 0,.int .u32 0,.int .u32 0,.int .u32 0,.int .u32 0,.int .u32 0,.int .u32 0,.int .u32 0,.int .u32 0,.int .u32 0,.int .u32 0,.int .u32 0,.int .u32 0,.int .u32 0,.int .u32 0,.int .u32 0,.int .u32 0,.int .u32 0,.int .u32 0,.int .u32 0,.int .u32 0,.int .u32 0,.int .u32 0,.int .u32 0,.int .u32 0,.int .u32 0,.int .u32 0,.int .u32 0,.int .u32 0,.int .u32 0,.int .u32 0,.int .u32 0,.int .u32 0,.int .u32 0,.int .u32 0,.int .u32 0,.int .u32 0,.int .u32 0,.int .u32 0,.int .u32 0]:=rfl
end Dg
theorem I3(w:World)(g o c:Nat)(bf:Nat→Int)(hc:64≤c)(dk:∀j,j<64→w.cell? ⟨g,o+j,none⟩=some (.int .u8 (bf j))):
 Calls Tryz.prog 120 #[.slice (some ⟨g,o,none⟩) 64 c] w fun e w'=>e=.returned (.agg (Dg.bw 64 .u32 (Dg.sched bf)))∧Below w.heap.size w w':=by
 have HE:Hid (Dg.sched bf=Dg.bO bf 64):=by
  have:Dg.sched bf=Dg.bO bf 64:=by unfold Dg.sched;rw[Dg.ji]
  exact this
 have HC:Hid (∀j,j<64→w.cell? ⟨g,o+j,none⟩=some (.int .u8 (bf j))):=dk
 have mO:g<w.heap.size:=block_lt_of_cell (dk 0 (by decide))
 clear dk
 go_enter Tryz.func120,Tryz.ntmps120
 go_upto_region 2 with fail
 rw[←Dg.T7]
 have j0:=heap_alloc2_old w (.cells (Dg.bw 64 .u32 (fun _=>0)) 234) (.cells (Dg.bw 64 .u32 (fun _=>0)) 234)
 have j1:=heap_alloc2_new w (.cells (Dg.bw 64 .u32 (fun _=>0)) 234) (.cells (Dg.bw 64 .u32 (fun _=>0)) 234)
 have jb:Below w.heap.size w ((w.alloc (.cells (Dg.bw 64 .u32 (fun _=>0)) 234)).alloc (.cells (Dg.bw 64 .u32 (fun _=>0)) 234)):=((Below.refl _ _).alloc (Nat.le_refl _) _).alloc (by simp) _
 generalize (w.alloc (.cells (Dg.bw 64 .u32 (fun _=>0)) 234)).alloc (.cells (Dg.bw 64 .u32 (fun _=>0)) 234)=w0 at j0 j1 jb ⊢
 have J0:Hid (w0.heap[w.heap.size]?=some (.cells (Dg.bw 64 .u32 (fun _=>0)) 234 (0,0))):=j0
 have J1:Hid (w0.heap[w.heap.size+1]?=some (.cells (Dg.bw 64 .u32 (Dg.bO bf 0)) 234 (0,0))):=j1
 have JB:Hid (Below w.heap.size w w0):=jb
 have hB:Hid (∀wr:World,Kb [w.heap.size+1] w0 wr→Below w.heap.size w wr):=fun wr h=>h.aU JB.out JB.out.size (by simp)
 clear j0 j1 jb
 go_wp2_with fail
 go_loopw [10] (fun i wr=>∃k:Nat,k≤16∧i=.int .i64 k∧wr.heap[w.heap.size+1]?=some (.cells (Dg.bw 64 .u32 (Dg.bO bf k)) 234 (0,0))∧Kb [w.heap.size+1] w0 wr) (fun i _=>16-(intOf i).toNat)
 case atStart=>exact⟨0,by omega,rfl,J1.out,Kb.refl _ _⟩
 case round=>
  obtain⟨k,hk,rfl,hv,fK⟩:=hrel
  have EG:Hid (Kb [w.heap.size+1] w0 wr):=fK
  have LN:=lt_of_heap hv
  have xS:Hid (Below w.heap.size w wr):=hB.out wr fK
  by_cases aG:k<16
  · have xI:∀(W:World),W.heap=wr.heap→∀j,j<64→W.cell? ⟨g,o+j,none⟩=some (.int .u8 (bf j)):=fun W hW j hj=>by
     have e:W.cell? ⟨g,o+j,none⟩=wr.cell? ⟨g,o+j,none⟩:=World.cell?_of_block (by rw[hW])
     rw[e,xS.out.cell mO]
     exact HC.out j hj
    have RK:Hid (Calls Tryz.prog 194 #[.slice (some ⟨g,o+4*k,none⟩) (64-4*k) (c-4*k)] wr fun e w2=>e=.returned (.int .u32 (Dg.word (bf (4*k)) (bf (4*k+1)) (bf (4*k+2)) (bf (4*k+3))))∧∃m,w2=wr.drewN m):=Kx wr g (o+4*k) (64-4*k) (c-4*k) _ _ _ _ (by omega) (xI wr rfl (4*k) (by omega)) (by rw[Nat.add_assoc];exact xI wr rfl (4*k+1) (by omega)) (by rw[Nat.add_assoc];exact xI wr rfl (4*k+2) (by omega)) (by rw[Nat.add_assoc];exact xI wr rfl (4*k+3) (by omega))
    have eX:Hid (Dg.bO bf (k+1)=Dg.yj (Dg.bO bf k) k (Dg.word (bf (4*k)) (bf (4*k+1)) (bf (4*k+2)) (bf (4*k+3)))):=by
     have:Dg.bO bf (k+1)=Dg.yj (Dg.bO bf k) k (Dg.word (bf (4*k)) (bf (4*k+1)) (bf (4*k+2)) (bf (4*k+3))):=by
      rw[Dg.bO,if_pos aG]
     exact this
    generalize Dg.word (bf (4*k)) (bf (4*k+1)) (bf (4*k+2)) (bf (4*k+3))=wd at RK eX
    have a0:=Dg.aH hv (show k<64 by omega)
    have a2:=Dg.bp hv k
    have eL:Hid (∀m:Nat,((wr.drewN m).setCell ⟨w.heap.size+1,k,none⟩ (.int .u32 wd)).heap[w.heap.size+1]?=some (.cells (Dg.bw 64 .u32 (Dg.bO bf (k+1))) 234 (0,0))∧Kb [w.heap.size+1] w0 ((wr.drewN m).setCell ⟨w.heap.size+1,k,none⟩ (.int .u32 wd))):=by
     intro m
     refine⟨by rw[Dg.oY (w:=wr.drewN m) hv (by omega),eX.out], ?_⟩
     exact(EG.out.drewN m).trans (Kb.setCell (wr.drewN m) ⟨w.heap.size+1,k,none⟩ _)
    clear hv fK xI
    go_wp2_with (go_at_call 194;refine RK.out.mono ?_;rintro e w2 ⟨rfl,m,rfl⟩)
    go_roundw
    case rel=>exact⟨k+1,by omega,by go_num,(eL.out _).1,(eL.out _).2⟩
    case measure=>simp[intOf];omega
  · have HV:Hid (wr.heap[w.heap.size+1]?=some (.cells (Dg.bw 64 .u32 (Dg.bO bf 16)) 234 (0,0))):=by
     have acE:k=16:=by omega
     rw[acE]at hv
     exact hv
    clear hv fK
    obtain⟨wA,rfl⟩:∃x,x=wr:=⟨_,rfl⟩
    go_wp2_with fail
    go_loopw [5] (fun i wr=>∃m:Nat,m≤48∧i=.int .i64 ((m:Int)+16)∧wr.heap[w.heap.size+1]?=some (.cells (Dg.bw 64 .u32 (Dg.bO bf (m+16))) 234 (0,0))∧Kb [w.heap.size+1] w0 wr) (fun i _=>64-(intOf i).toNat)
    case atStart=>exact⟨0,by omega,rfl,HV.out,EG.out⟩
    case round=>
     obtain⟨m,hm,rfl,hv,fK⟩:=hrel
     have CK:Hid (Kb [w.heap.size+1] w0 wr):=fK
     have LN:=lt_of_heap hv
     by_cases aG:m<48
     · have c0:=Dg.aH hv (show m<64 by omega)
       have c1:=Dg.aH hv (show m+1<64 by omega)
       have c9:=Dg.aH hv (show m+9<64 by omega)
       have Hb:=Dg.aH hv (show m+14<64 by omega)
       have c16:=Dg.aH hv (show m+16<64 by omega)
       have f16:=Dg.bp hv (m+16)
       have eX:Hid (Dg.bO bf (m+1+16)=Dg.yj (Dg.bO bf (m+16)) (m+16) ((Dg.bO bf (m+16) m+Dg.Mk (Dg.bO bf (m+16) (m+1))+Dg.bO bf (m+16) (m+9)+Dg.Ma (Dg.bO bf (m+16) (m+14)))%4294967296)):=by
        have:Dg.bO bf (m+1+16)=Dg.yj (Dg.bO bf (m+16)) (m+16) ((Dg.bO bf (m+16) m+Dg.Mk (Dg.bO bf (m+16) (m+1))+Dg.bO bf (m+16) (m+9)+Dg.Ma (Dg.bO bf (m+16) (m+14)))%4294967296):=by
         rw[show m+1+16=(m+16)+1 by omega,Dg.bO,if_neg (by omega),show m+16-16=m by omega,show m+16-15=m+1 by omega,show m+16-7=m+9 by omega,show m+16-2=m+14 by omega]
        exact this
       have eL:Hid (∀(n:Nat) (W:World),W.heap=wr.heap→Kb [w.heap.size+1] w0 W→(W.setCell ⟨w.heap.size+1,m+16,none⟩ (.int .u32 ((Dg.bO bf (m+16) m+Dg.Mk (Dg.bO bf (m+16) (m+1))+Dg.bO bf (m+16) (m+9)+Dg.Ma (Dg.bO bf (m+16) (m+14)))%4294967296))).heap[w.heap.size+1]?=some (.cells (Dg.bw 64 .u32 (Dg.bO bf (m+1+16))) 234 (0,0))∧Kb [w.heap.size+1] w0 (W.setCell ⟨w.heap.size+1,m+16,none⟩ (.int .u32 ((Dg.bO bf (m+16) m+Dg.Mk (Dg.bO bf (m+16) (m+1))+Dg.bO bf (m+16) (m+9)+Dg.Ma (Dg.bO bf (m+16) (m+14)))%4294967296)))):=by
        intro n W hW hkW
        exact⟨by rw[Dg.oY (w:=W) (by rw[hW];exact hv) (by omega),eX.out],hkW.trans (Kb.setCell W ⟨w.heap.size+1,m+16,none⟩ _)⟩
       have ht:=fun x b w=>El x b w
       clear hv fK
       go_upto_region 10 with fail
       go_quiet (fail)
       go_upto_region 13 with(go_at_call 195;refine(ht _ _ _).mono ?_;rintro e w' ⟨rfl,rfl⟩)
       go_region
       all_goals
        (go_wp2_with fail
         go_roundw
         case rel=>
          refine⟨m+1,by omega,by go_num,(eL.out 0 _ ?_ ?_).1,(eL.out 0 _ ?_ ?_).2⟩
          · rfl
          · exact⟨CK.out.os,CK.out.tape,CK.out.output,CK.out.size,CK.out.block⟩
          · rfl
          · exact⟨CK.out.os,CK.out.tape,CK.out.output,CK.out.size,CK.out.block⟩
         case measure=>simp[intOf];omega)
     · have hz:wr.heap[w.heap.size]?=some (.cells (Dg.bw 64 .u32 (fun _=>0)) 234 (0,0)):=CK.out.heap J0.out (by simp only[List.mem_singleton];omega)
       have eh:Hid (Below w.heap.size w (wr.setRow w.heap.size (Dg.bw 64 .u32 (Dg.bO bf 64)))):=(Kb.setRow wr w.heap.size _).aU (hB.out wr CK.out) (hB.out wr CK.out).size (by simp)
       have bF:Hid ((wr.setRow w.heap.size (Dg.bw 64 .u32 (Dg.bO bf 64))).heap[w.heap.size]?=some (.cells (Dg.bw 64 .u32 (Dg.bO bf 64)) 234 (0,0))):=bz wr w.heap.size _ hz
       have WM:wr.heap[w.heap.size+1]?=some (.cells (Dg.bw 64 .u32 (Dg.bO bf 64)) 234 (0,0)):=by
        have acY:m=48:=by omega
        rw[acY]at hv
        exact hv
       generalize Dg.bO bf 64=f at WM HE eh bF
       clear hv fK
       go_wp2_with (first | (refine wpList_load_row rfl 234 (.tmp 3) rfl (w.heap.size+1) rfl _ _ _ _ WM Tryz.underlying234 rfl (by rw[Dg.cI];kernel_rfl) ?_) | (refine wpList_store_row rfl 234 (.tmp 2) (.tmp 64) rfl w.heap.size rfl (Dg.bw 64 .u32 f) rfl _ _ hz (by rw[Dg.cI,Dg.cI]) (by rw[Dg.cI];kernel_rfl) (Dg.xh _ _ _) ?_))
       refine bodyPost_ret (v:=.agg (Dg.bw 64 .u32 f)) ?_ rfl ⟨by rw[HE.out],eh.out⟩
       exact results_cell_row rfl _ _ _ _ _ _ _ rfl bF.out Tryz.underlying234 rfl (by rw[Dg.cI];kernel_rfl)
end
/- Package digest: a word written as four bytes. -/
section
open Go.RowKit
namespace Dg
def XR(word:Int)(k:Nat):Int:=word/2^(24-8*k)%256
def byte:Int→Nat→Int:=shut XR
def mF(f:Nat→Int)(o:Nat)(word:Int)(k:Nat):Nat→Int:=fun j=>if o≤j∧j<o+k then byte word (j-o)else f j
theorem Lc(f:Nat→Int)(o:Nat)(word:Int):mF f o word 0=f:=by
 funext j
 unfold mF
 rw[if_neg (by omega)]
theorem KT(f:Nat→Int)(o:Nat)(word:Int)(k:Nat):mF f o word (k+1)=yj (mF f o word k) (o+k) (byte word k):=by
 funext j
 unfold mF yj
 by_cases e:j=o+k
 · subst e
   rw[if_pos (by omega),if_pos rfl,show o+k-o=k by omega]
 · have e2:(o≤j∧j<o+(k+1))↔(o≤j∧j<o+k):=by omega
   simp only[if_neg e,e2]
end Dg
theorem oA(w:World)(g o n c m:Nat)(T:TypeId)(f:Nat→Int)(word:Int)(hn:4≤n)(hm:o+4≤m)(hg:w.heap[g]?=some (.cells (Dg.bw m .u8 f) T (0,0))):
 Calls Tryz.prog 121 #[.slice (some ⟨g,o,none⟩) n c,.int .u32 word] w fun e w'=>e=.returned (.tuple #[])∧w'.heap[g]?=some (.cells (Dg.bw m .u8 (Dg.mF f o word 4)) T (0,0))∧Kb [g] w w':=by
 have HG:Hid (w.heap[g]?=some (.cells (Dg.bw m .u8 (Dg.mF f o word 0)) T (0,0))):=by
  rw[Dg.Lc];exact hg
 clear hg
 go_enter Tryz.func121,Tryz.ntmps121
 go_wp2_with fail
 go_loopw [5] (fun i wr=>∃k:Nat,k≤4∧i=.int .i64 k∧wr.heap[g]?=some (.cells (Dg.bw m .u8 (Dg.mF f o word k)) T (0,0))∧Kb [g] w wr) (fun i _=>4-(intOf i).toNat)
 case atStart=>exact⟨0,by omega,rfl,HG.out,Kb.refl _ _⟩
 case round=>
  obtain⟨k,hk,rfl,hv,fK⟩:=hrel
  have EG:Hid (Kb [g] w wr):=fK
  have HV:Hid (wr.heap[g]?=some (.cells (Dg.bw m .u8 (Dg.mF f o word k)) T (0,0))):=hv
  have hl:=lt_of_heap hv
  by_cases aG:k<4
  · have a0:=Dg.aH hv (show o+k<m by omega)
    have a1:=Dg.bp hv (o+k)
    have h0:(0:Int)≤24-8*(k:Int):=by omega
    have yk:Hid ((wr.setCell ⟨g,o+k,none⟩ (.int .u8 (word/2^(24-8*k)%256))).heap[g]?=some (.cells (Dg.bw m .u8 (Dg.mF f o word (k+1))) T (0,0))∧Kb [g] w (wr.setCell ⟨g,o+k,none⟩ (.int .u8 (word/2^(24-8*k)%256)))):=by
     have e:Dg.byte word k=word/2^(24-8*k)%256:=by unfold Dg.byte;rw[Dg.ji];rfl
     refine⟨?_,EG.out.trans (Kb.setCell wr ⟨g,o+k,none⟩ _)⟩
     rw[Dg.oY hv (by omega),Dg.KT,e]
    clear hv fK
    go_wp2_with fail
    go_roundw
    case rel=>exact⟨k+1,by omega,by go_num,yk.out.1,yk.out.2⟩
    case measure=>simp[intOf];omega
  · have HE:Hid (wr.heap[g]?=some (.cells (Dg.bw m .u8 (Dg.mF f o word 4)) T (0,0))):=by
     have hk4:k=4:=by omega
     rw[hk4]at hv
     exact hv
    clear hv fK
    go_wp2_with fail
    go_end0
    exact⟨rfl,HE.out,EG.out⟩
end
/- Package digest: pad. -/
section
open Go.RowKit
theorem Fg{w:World}(s:ByteArray)(hs:s.size≤maxLen):lV (Lib.bytesWorld w 5 s) w.heap.size 5 (.slice (some ⟨w.heap.size,0,none⟩) s.size (grownCap w s.size 0 5)) s.size (byteCells s)∧Below w.heap.size w (Lib.bytesWorld w 5 s):=by
 have AM:=grownCap_ge w s.size 0 5
 have hle:grownCap w s.size 0 5≤maxLen:=grownCap_le_maxLen w s.size 0 5 hs
 have cR:(Lib.bytesCells w 5 s).size=grownCap w s.size 0 5:=by
  simp[Lib.bytesCells]
  omega
 refine⟨⟨by simp[byteCells],w.heap.size,_,_,_,rfl,Nat.le_refl _,Lib.bytesWorld_at_new w 5 s,.inr (Nat.le_refl _),AM,hle,cR, ?_⟩,⟨rfl,rfl,rfl,by rw[Lib.bytesWorld_size];omega,fun k hk=>Lib.bytesWorld_at_old w 5 s k hk⟩⟩
 unfold Lib.bytesCells byteCells
 rw[Array.toList_append]
 have h1:(s.data.map fun b=>Value.int .u8 (b.toNat:Int)).toList=s.data.toList.map fun b=>Value.int .u8 (b.toNat:Int):=by simp
 rw[h1]
 have h2:(s.data.toList.map fun b=>Value.int .u8 (b.toNat:Int)).length=s.size:=by simp
 rw[←h2]
 exact List.take_left
namespace Dg
def zc(n:Nat):Nat:=(119-n%64)%64
def lG(k:Nat):List Value:=List.replicate k (.int .u8 0)
def Q1(n:Nat):Nat→Int:=mF (mF (fun _=>0) 0 ((n:Int)*8/4294967296) 4) 4 ((n:Int)*8%4294967296) 4
def xr(s:ByteArray):List Value:=byteCells s++[.int .u8 128]++lG (zc s.size)++(bw 8 .u8 (Q1 s.size)).toList
theorem GV(n:Nat):(n+1+zc n)%64=56∧∀j,j<zc n→(n+1+j)%64≠56:=by
 unfold zc
 refine⟨by omega,fun j hj=>by omega⟩
theorem GN(k:Nat):lG (k+1)=lG k++[.int .u8 0]:=by
 unfold lG
 rw[List.replicate_succ']
end Dg
theorem Mw{w:World}{g n:Nat}{k:IntKind}{f:Nat→Int}{T:TypeId}(hg:w.heap[g]?=some (.cells (Dg.bw n k f) T (0,0))):∀j u,(Dg.bw n k f).toList[j]?=some u→w.cell? ((⟨g,0,none⟩:Addr).add j)=some u:=by
 intro j u hj
 have ef:(⟨g,0,none⟩:Addr).add j=⟨g,j,none⟩:=by unfold Addr.add;split<;>simp_all
 rw[ef,cell_of_row _ _ _ _ _ _ hg]
 simpa using hj
theorem Au{w w1 w2:World}{v v2:Value}{n m:Nat}{xs ys:List Value}{o:Obj}(h:lV w1 w.heap.size 5 v n xs)(hb:Below w.heap.size w w1)(h2:lV w2 w.heap.size 5 v2 m ys)(hg:(w1.alloc o).grownBy w2 v.ownBlock):Below w.heap.size w w2:=by
 refine(hb.alloc hb.size o).grown hg (by have:=hb.size;simp;omega) ?_
 intro k hk
 obtain⟨g,cap,e,hB,_⟩:=h.lt
 rw[e]at hk
 simp only[Value.ownBlock,Option.some.injEq]at hk
 omega
theorem PL(w:World)(s:ByteArray)(hs:s.size≤100000000000):
 Calls Tryz.prog 118 #[.string s] w fun e w'=>∃v n,e=.returned v∧lV w' w.heap.size 5 v n (Dg.xr s)∧Below w.heap.size w w':=by
 obtain⟨i0,jS,ew,ev,dY⟩:=info_parts Tryz.ku
 have HI:Hid (Tryz.prog.info? 5=some i0):=jS
 have H0:Hid (i0.zero=some (.int .u8 0)):=ew
 have H1:Hid (i0.size=1):=ev
 have H2:Hid (i0.bytes=1):=dY
 clear jS ew ev dY
 have PV:=Lib.run_convert_string_bytes (P:=Tryz.prog) w 9 63 5 s Tryz.underlying9 Tryz.underlying63 Tryz.underlying5
 obtain⟨Gw,bU⟩:=Fg (w:=w) s (by unfold maxLen;omega)
 generalize Lib.bytesWorld w 5 s=w0 at PV Gw bU
 generalize grownCap w s.size 0 5=c0 at PV Gw
 have DV:=bU.size
 go_enter Tryz.func118,Tryz.ntmps118
 go_wp2_with (at_builtin;go_must (refine gI _ rfl (.tmp 7) (.tmp 8) 63 rfl w.heap.size 5 i0 _ 1 Tryz.underlying63 HI.out H0.out H1.out H2.out rfl _ _ _ rfl (Gw.alloc _) ⟨w0.heap.size,0,none⟩ 1 1 [.int .u8 128] rfl rfl (World.news_of_block (heap_alloc_new _ _)) (by simp[Value.oneCell']) (by unfold maxLen;omega) (by omega) (by simp;omega) ?_;intro v2 w2 aP cg))
 have cw:=Au Gw bU aP cg
 have Kp:Hid (lV w2 w.heap.size 5 v2 (s.size+1+0) (byteCells s++[.int .u8 128]++Dg.lG 0)):=by
  have:byteCells s++[Value.int .u8 128]++Dg.lG 0=byteCells s++[.int .u8 128]:=by simp[Dg.lG]
  rw[this]
  exact aP
 have pG:Hid (Below w.heap.size w w2):=cw
 have hzc:Dg.zc s.size<64:=by unfold Dg.zc;omega
 obtain⟨ev,dY⟩:=Dg.GV s.size
 have Wc:Hid (∀j,j<Dg.zc s.size→(s.size+1+j)%64≠56):=dY
 have Lm:Hid (Dg.xr s=byteCells s++[.int .u8 128]++Dg.lG (Dg.zc s.size)++(Dg.bw 8 .u8 (Dg.Q1 s.size)).toList):=(rfl:Dg.xr s=_)
 generalize Dg.zc s.size=Z at hzc ev Wc Lm
 clear dY PV Gw bU aP cg cw DV
 go_loopg [3] Z (fun k v wr=>∃j:Nat,j+k=Z∧lV wr w.heap.size 5 v (s.size+1+j) (byteCells s++[.int .u8 128]++Dg.lG j)∧Below w.heap.size w wr)
 case atStart=>exact⟨0,by omega,Kp.out,pG.out⟩
 case round=>
  obtain⟨j,hj,au,aV⟩:=hrel
  have HR:Hid (lV wr w.heap.size 5 _ (s.size+1+j) (byteCells s++[.int .u8 128]++Dg.lG j)):=au
  have HB:Hid (Below w.heap.size w wr):=aV
  have hsw:=aV.size
  obtain⟨g,cap,e0,F6,mO,ll,dk⟩:=au.lt
  subst e0
  cases gk with
  | succ k=>
   have cE:((((s.size+1+j:Nat):Int)%64) != 56)=true:=by
    have:=Wc.out j (by omega)
    simp;omega
   clear dk aV
   go_wp2_with (at_builtin;go_must (refine gI _ rfl (.tmp 14) (.tmp 15) 63 rfl w.heap.size 5 i0 _ 1 Tryz.underlying63 HI.out H0.out H1.out H2.out rfl _ _ _ rfl (au.alloc _) ⟨wr.heap.size,0,none⟩ 1 1 [.int .u8 0] rfl rfl (World.news_of_block (heap_alloc_new _ _)) (by simp[Value.oneCell']) (by unfold maxLen;omega) (by omega) (by simp;omega) ?_;intro v3 w3 fF gG))
   have fH:=Au HR.out HB.out fF gG
   go_roundg k
   case measure=>omega
   case rel=>
    refine⟨j+1,by omega, ?_,fH⟩
    rw[Dg.GN,←List.append_assoc]
    exact fF
  | zero=>
   have hjz:j=Z:=by omega
   have heq:((((s.size+1+j:Nat):Int)%64) != 56)=false:=by
    rw[hjz]
    simp;omega
   have HRZ:Hid (lV wr w.heap.size 5 (.slice (some ⟨g,0,none⟩) (s.size+1+j) cap) (s.size+1+j) (byteCells s++[.int .u8 128]++Dg.lG Z)):=by
    have:=HR.out
    rw[hjz]at this ⊢
    exact this
   have hjb:j<64:=by omega
   clear dk aV au hjz
   have fW:Hid (∀word:Int,Calls Tryz.prog 121 #[.slice (some ⟨wr.heap.size,0,none⟩) 8 8,.int .u32 word] (wr.alloc (.cells #[.int .u8 0,.int .u8 0,.int .u8 0,.int .u8 0,.int .u8 0,.int .u8 0,.int .u8 0,.int .u8 0] 329)) fun e w4=>e=.returned (.tuple #[])∧Hid (w4.heap[wr.heap.size]?=some (.cells (Dg.bw 8 .u8 (Dg.mF (fun _=>0) 0 word 4)) 329 (0,0))∧Kb [wr.heap.size] (wr.alloc (.cells #[.int .u8 0,.int .u8 0,.int .u8 0,.int .u8 0,.int .u8 0,.int .u8 0,.int .u8 0,.int .u8 0] 329)) w4)∧wr.heap.size<w4.heap.size∧∀Ic:Int,Calls Tryz.prog 121 #[.slice (some ⟨wr.heap.size,4,none⟩) 4 4,.int .u32 Ic] w4 fun e w5=>e=.returned (.tuple #[])∧Hid (w5.heap[wr.heap.size]?=some (.cells (Dg.bw 8 .u8 (Dg.mF (Dg.mF (fun _=>0) 0 word 4) 4 Ic 4)) 329 (0,0))∧Kb [wr.heap.size] (wr.alloc (.cells #[.int .u8 0,.int .u8 0,.int .u8 0,.int .u8 0,.int .u8 0,.int .u8 0,.int .u8 0,.int .u8 0] 329)) w5)∧wr.heap.size<w5.heap.size):=by
    intro word
    refine(oA _ wr.heap.size 0 8 8 8 329 (fun _=>0) word (by decide) (by decide) (heap_alloc_new wr _)).mono ?_
    rintro e w4 ⟨rfl,q1,q2⟩
    refine⟨rfl,⟨q1,q2⟩,lt_of_heap q1,fun Ic=> ?_⟩
    refine(oA w4 wr.heap.size 4 4 4 8 329 _ Ic (by decide) (by decide) q1).mono ?_
    rintro e w5 ⟨rfl,q3,q4⟩
    exact⟨rfl,⟨q3,q2.trans q4⟩,lt_of_heap q3⟩
   go_upto_region 6 with fail
   go_upto_region 7 with(go_at_call 121;refine(fW.out _).mono ?_;rintro e w4 ⟨rfl,Q4,hl4,jZ⟩)
   go_upto_region 8 with(go_at_call 121;refine(jZ _).mono ?_;rintro e w5 ⟨rfl,Q5,YW⟩)
   have h5:w5.heap[wr.heap.size]?=some (.cells (Dg.bw 8 .u8 (Dg.Q1 s.size)) 329 (0,0)):=Q5.out.1
   have hr5:lV w5 w.heap.size 5 (.slice (some ⟨g,0,none⟩) (s.size+1+j) cap) (s.size+1+j) (byteCells s++[.int .u8 128]++Dg.lG Z):=(HRZ.out.alloc _).kept Q5.out.2 (by intro b hb;simp only[Value.ownBlock,Option.some.injEq]at hb;simp only[List.mem_singleton];omega)
   have mN:Below w.heap.size w w5:=Q5.out.2.aU (HB.out.alloc hsw _) (by simp;omega) (by simp;omega)
   have hs5:=mN.size
   have Ir:Hid (Below w.heap.size w w5):=mN
   have HGB:Hid (w.heap.size≤g):=F6
   go_wp2_with (at_builtin;go_must (refine gI _ rfl (.tmp 30) (.tmp 31) 63 rfl w.heap.size 5 i0 _ 1 Tryz.underlying63 HI.out H0.out H1.out H2.out rfl _ _ _ rfl hr5 ⟨wr.heap.size,0,none⟩ 8 8 (Dg.bw 8 .u8 (Dg.Q1 s.size)).toList rfl (by rw[Array.length_toList,Dg.cI]) (Mw h5) (Dg.xh _ _ _) (by unfold maxLen;omega) (by omega) (by omega) ?_;intro v6 w6 XN U5))
   have pL:Below w.heap.size w w6:=Ir.out.grown U5 hs5 (fun k hk=>by have A0:some g=some k:=hk;simp only[Option.some.injEq]at A0;have:=HGB.out;omega)
   go_ret
   exact⟨v6,_,rfl,by rw[Lm.out];exact XN,pL⟩
end
end Go.Proofs.YtdmicblafmhflaaGreatDoor
