/- Package digest: pad. -/
import Derived.Test.YtdmicblafmhflaaGreatDoorC31
import Derived.Test.YtdmicblafmhflaaGreatDoorC12
import Derived.Test.YtdmicblafmhflaaGreatDoorC11
import Derived.Deep.LoopGhost
import Derived.Deep.CutBlock
import Derived.Test.YtdmicblafmhflaaGreatDoorC30
set_option linter.unusedSimpArgs false
set_option linter.unusedVariables false
set_option maxHeartbeats 2000000
set_option maxRecDepth 100000
namespace Go.Proofs.YtdmicblafmhflaaGreatDoor
section
open Go.RowKit
theorem F1{w:World}(s:ByteArray)(hs:s.size≤maxLen):lU (Lib.bytesWorld w 5 s) w.heap.size 5 (.slice (some ⟨w.heap.size,0,none⟩) s.size (grownCap w s.size 0 5)) s.size (byteCells s)∧Below w.heap.size w (Lib.bytesWorld w 5 s):=by
 have BO:=grownCap_ge w s.size 0 5
 have hle:grownCap w s.size 0 5≤maxLen:=grownCap_le_maxLen w s.size 0 5 hs
 have cr:(Lib.bytesCells w 5 s).size=grownCap w s.size 0 5:=by
  simp[Lib.bytesCells]
  omega
 refine⟨⟨by simp[byteCells],w.heap.size,_,_,_,rfl,Nat.le_refl _,Lib.bytesWorld_at_new w 5 s,.inr (Nat.le_refl _),BO,hle,cr, ?_⟩,⟨rfl,rfl,rfl,by rw[Lib.bytesWorld_size];omega,fun k hk=>Lib.bytesWorld_at_old w 5 s k hk⟩⟩
 unfold Lib.bytesCells byteCells
 rw[Array.toList_append]
 have h1:(s.data.map fun b=>Value.int .u8 (b.toNat:Int)).toList=s.data.toList.map fun b=>Value.int .u8 (b.toNat:Int):=by simp
 rw[h1]
 have h2:(s.data.toList.map fun b=>Value.int .u8 (b.toNat:Int)).length=s.size:=by simp
 rw[←h2]
 exact List.take_left
namespace Dg
def zc(n:Nat):Nat:=(119-n%64)%64
def lK(k:Nat):List Value:=List.replicate k (.int .u8 0)
def Ra(n:Nat):Nat→Int:=mg (mg (fun _=>0) 0 ((n:Int)*8/4294967296) 4) 4 ((n:Int)*8%4294967296) 4
def wF(s:ByteArray):List Value:=byteCells s++[.int .u8 128]++lK (zc s.size)++(bp 8 .u8 (Ra s.size)).toList
theorem Is(n:Nat):(n+1+zc n)%64=56∧∀j,j<zc n→(n+1+j)%64≠56:=by
 unfold zc
 refine⟨by omega,fun j hj=>by omega⟩
theorem G2(k:Nat):lK (k+1)=lK k++[.int .u8 0]:=by
 unfold lK
 rw[List.replicate_succ']
end Dg
theorem NN{w:World}{g n:Nat}{k:IntKind}{f:Nat→Int}{T:TypeId}(hg:w.heap[g]?=some (.cells (Dg.bp n k f) T (0,0))):∀j u,(Dg.bp n k f).toList[j]?=some u→w.cell? ((⟨g,0,none⟩:Addr).add j)=some u:=by
 intro j u hj
 have dR:(⟨g,0,none⟩:Addr).add j=⟨g,j,none⟩:=by unfold Addr.add;split<;>simp_all
 rw[dR,cell_of_row _ _ _ _ _ _ hg]
 simpa using hj
theorem AM{w w1 w2:World}{v v2:Value}{n m:Nat}{xs ys:List Value}{o:Obj}(h:lU w1 w.heap.size 5 v n xs)(hb:Below w.heap.size w w1)(h2:lU w2 w.heap.size 5 v2 m ys)(hg:(w1.alloc o).grownBy w2 v.ownBlock):Below w.heap.size w w2:=by
 refine(hb.alloc hb.size o).grown hg (by have:=hb.size;simp;omega) ?_
 intro k hk
 obtain⟨g,cap,e,hB,_⟩:=h.lt
 rw[e]at hk
 simp only[Value.ownBlock,Option.some.injEq]at hk
 omega
theorem Qm(w:World)(s:ByteArray)(hs:s.size≤100000000000):
 Calls Tryz.prog 118 #[.string s] w fun e w'=>∃v n,e=.returned v∧lU w' w.heap.size 5 v n (Dg.wF s)∧Below w.heap.size w w':=by
 obtain⟨i0,kP,eX,eP,eA⟩:=info_parts Tryz.kX
 have HI:Hid (Tryz.prog.info? 5=some i0):=kP
 have H0:Hid (i0.zero=some (.int .u8 0)):=eX
 have H1:Hid (i0.size=1):=eP
 have H2:Hid (i0.bytes=1):=eA
 clear kP eX eP eA
 have Ml:=Lib.run_convert_string_bytes (P:=Tryz.prog) w 9 63 5 s Tryz.underlying9 Tryz.underlying63 Tryz.underlying5
 obtain⟨Gh,bK⟩:=F1 (w:=w) s (by unfold maxLen;omega)
 generalize Lib.bytesWorld w 5 s=w0 at Ml Gh bK
 generalize grownCap w s.size 0 5=c0 at Ml Gh
 have JA:=bK.size
 go_enter Tryz.func118,Tryz.ntmps118
 go_wp2_with (at_builtin;go_must (refine gJ _ rfl (.tmp 7) (.tmp 8) 63 rfl w.heap.size 5 i0 _ 1 Tryz.underlying63 HI.out H0.out H1.out H2.out rfl _ _ _ rfl (Gh.alloc _) ⟨w0.heap.size,0,none⟩ 1 1 [.int .u8 128] rfl rfl (World.news_of_block (heap_alloc_new _ _)) (by simp[Value.oneCell']) (by unfold maxLen;omega) (by omega) (by simp;omega) ?_;intro v2 w2 aO ch))
 have cM:=AM Gh bK aO ch
 have P2:Hid (lU w2 w.heap.size 5 v2 (s.size+1+0) (byteCells s++[.int .u8 128]++Dg.lK 0)):=by
  have:byteCells s++[Value.int .u8 128]++Dg.lK 0=byteCells s++[.int .u8 128]:=by simp[Dg.lK]
  rw[this]
  exact aO
 have Hg:Hid (Below w.heap.size w w2):=cM
 have hzc:Dg.zc s.size<64:=by unfold Dg.zc;omega
 obtain⟨eP,eA⟩:=Dg.Is s.size
 have Xd:Hid (∀j,j<Dg.zc s.size→(s.size+1+j)%64≠56):=eA
 have LS:Hid (Dg.wF s=byteCells s++[.int .u8 128]++Dg.lK (Dg.zc s.size)++(Dg.bp 8 .u8 (Dg.Ra s.size)).toList):=(rfl:Dg.wF s=_)
 generalize Dg.zc s.size=Z at hzc eP Xd LS
 clear eA Ml Gh bK aO ch cM JA
 go_loopg [3] Z (fun k v wr=>∃j:Nat,j+k=Z∧lU wr w.heap.size 5 v (s.size+1+j) (byteCells s++[.int .u8 128]++Dg.lK j)∧Below w.heap.size w wr)
 case atStart=>exact⟨0,by omega,P2.out,Hg.out⟩
 case round=>
  obtain⟨j,hj,aj,aR⟩:=hrel
  have HR:Hid (lU wr w.heap.size 5 _ (s.size+1+j) (byteCells s++[.int .u8 128]++Dg.lK j)):=aj
  have HB:Hid (Below w.heap.size w wr):=aR
  have hsw:=aR.size
  obtain⟨g,cap,e0,Ia,mh,na,dt⟩:=aj.lt
  subst e0
  cases gk with
  | succ k=>
   have cL:((((s.size+1+j:Nat):Int)%64) != 56)=true:=by
    have:=Xd.out j (by omega)
    simp;omega
   clear dt aR
   go_wp2_with (at_builtin;go_must (refine gJ _ rfl (.tmp 14) (.tmp 15) 63 rfl w.heap.size 5 i0 _ 1 Tryz.underlying63 HI.out H0.out H1.out H2.out rfl _ _ _ rfl (aj.alloc _) ⟨wr.heap.size,0,none⟩ 1 1 [.int .u8 0] rfl rfl (World.news_of_block (heap_alloc_new _ _)) (by simp[Value.oneCell']) (by unfold maxLen;omega) (by omega) (by simp;omega) ?_;intro v3 w3 fG gI))
   have eB:=AM HR.out HB.out fG gI
   go_roundg k
   case measure=>omega
   case rel=>
    refine⟨j+1,by omega, ?_,eB⟩
    rw[Dg.G2,←List.append_assoc]
    exact fG
  | zero=>
   have hjz:j=Z:=by omega
   have heq:((((s.size+1+j:Nat):Int)%64) != 56)=false:=by
    rw[hjz]
    simp;omega
   have Z0:Hid (lU wr w.heap.size 5 (.slice (some ⟨g,0,none⟩) (s.size+1+j) cap) (s.size+1+j) (byteCells s++[.int .u8 128]++Dg.lK Z)):=by
    have:=HR.out
    rw[hjz]at this ⊢
    exact this
   have hjb:j<64:=by omega
   clear dt aR aj hjz
   have fZ:Hid (∀word:Int,Calls Tryz.prog 121 #[.slice (some ⟨wr.heap.size,0,none⟩) 8 8,.int .u32 word] (wr.alloc (.cells #[.int .u8 0,.int .u8 0,.int .u8 0,.int .u8 0,.int .u8 0,.int .u8 0,.int .u8 0,.int .u8 0] 329)) fun e w4=>e=.returned (.tuple #[])∧Hid (w4.heap[wr.heap.size]?=some (.cells (Dg.bp 8 .u8 (Dg.mg (fun _=>0) 0 word 4)) 329 (0,0))∧Kb [wr.heap.size] (wr.alloc (.cells #[.int .u8 0,.int .u8 0,.int .u8 0,.int .u8 0,.int .u8 0,.int .u8 0,.int .u8 0,.int .u8 0] 329)) w4)∧wr.heap.size<w4.heap.size∧∀IM:Int,Calls Tryz.prog 121 #[.slice (some ⟨wr.heap.size,4,none⟩) 4 4,.int .u32 IM] w4 fun e w5=>e=.returned (.tuple #[])∧Hid (w5.heap[wr.heap.size]?=some (.cells (Dg.bp 8 .u8 (Dg.mg (Dg.mg (fun _=>0) 0 word 4) 4 IM 4)) 329 (0,0))∧Kb [wr.heap.size] (wr.alloc (.cells #[.int .u8 0,.int .u8 0,.int .u8 0,.int .u8 0,.int .u8 0,.int .u8 0,.int .u8 0,.int .u8 0] 329)) w5)∧wr.heap.size<w5.heap.size):=by
    intro word
    refine(oC _ wr.heap.size 0 8 8 8 329 (fun _=>0) word (by decide) (by decide) (heap_alloc_new wr _)).mono ?_
    rintro e w4 ⟨rfl,q1,q2⟩
    refine⟨rfl,⟨q1,q2⟩,lt_of_heap q1,fun IM=> ?_⟩
    refine(oC w4 wr.heap.size 4 4 4 8 329 _ IM (by decide) (by decide) q1).mono ?_
    rintro e w5 ⟨rfl,q3,q4⟩
    exact⟨rfl,⟨q3,q2.trans q4⟩,lt_of_heap q3⟩
   go_upto_region 6 with fail
   go_upto_region 7 with(go_at_call 121;refine(fZ.out _).mono ?_;rintro e w4 ⟨rfl,Q4,hl4,iI⟩)
   go_upto_region 8 with(go_at_call 121;refine(iI _).mono ?_;rintro e w5 ⟨rfl,Q5,TY⟩)
   have h5:w5.heap[wr.heap.size]?=some (.cells (Dg.bp 8 .u8 (Dg.Ra s.size)) 329 (0,0)):=Q5.out.1
   have hr5:lU w5 w.heap.size 5 (.slice (some ⟨g,0,none⟩) (s.size+1+j) cap) (s.size+1+j) (byteCells s++[.int .u8 128]++Dg.lK Z):=(Z0.out.alloc _).kept Q5.out.2 (by intro b hb;simp only[Value.ownBlock,Option.some.injEq]at hb;simp only[List.mem_singleton];omega)
   have ls:Below w.heap.size w w5:=Q5.out.2.aK (HB.out.alloc hsw _) (by simp;omega) (by simp;omega)
   have hs5:=ls.size
   have SG:Hid (Below w.heap.size w w5):=ls
   have HGB:Hid (w.heap.size≤g):=Ia
   go_wp2_with (at_builtin;go_must (refine gJ _ rfl (.tmp 30) (.tmp 31) 63 rfl w.heap.size 5 i0 _ 1 Tryz.underlying63 HI.out H0.out H1.out H2.out rfl _ _ _ rfl hr5 ⟨wr.heap.size,0,none⟩ 8 8 (Dg.bp 8 .u8 (Dg.Ra s.size)).toList rfl (by rw[Array.length_toList,Dg.cH]) (NN h5) (Dg.yo _ _ _) (by unfold maxLen;omega) (by omega) (by omega) ?_;intro v6 w6 X9 Ur))
   have oF:Below w.heap.size w w6:=SG.out.grown Ur hs5 (fun k hk=>by have BZ:some g=some k:=hk;simp only[Option.some.injEq]at BZ;have:=HGB.out;omega)
   go_ret
   exact⟨v6,_,rfl,by rw[LS.out];exact X9,oF⟩
end
/- Package digest: Of. -/
section
open Go.RowKit
namespace Dg
def iv(i:Nat):Int:=match i with | 0=>1779033703 | 1=>3144134277 | 2=>1013904242 | 3=>2773480762 | 4=>1359893119 | 5=>2600822924 | 6=>528734635 | _=>1541459225
theorem GW:bp 32 .u8 (fun _=>0)=#[.int .u8 0,.int .u8 0,.int .u8 0,.int .u8 0,.int .u8 0,.int .u8 0,.int .u8 0,.int .u8 0,.int .u8 0,.int .u8 0,.int .u8 0,.int .u8 0,.int .u8 0,.int .u8 0,.int .u8 0,.int .u8 0,.int .u8 0,.int .u8 0,.int .u8 0,.int .u8 0,.int .u8 0,.int .u8 0,.int .u8 0,.int .u8 0,.int .u8 0,.int .u8 0,.int .u8 0,.int .u8 0,.int .u8 0,.int .u8 0,.int .u8 0,.int .u8 0]:=rfl
def acj(u:Value):Int:=match u with | .int _ v=>v | _=>0
def nC(s:ByteArray)(j:Nat):Int:=acj ((wF s).getD j (.int .u8 0))
theorem Ql(s:ByteArray):∀u,u∈wF s→∃v,u=.int .u8 v:=by
 intro u hu
 unfold wF byteCells lK bp at hu
 simp only[List.append_assoc,List.mem_append,List.mem_map,List.mem_cons,List.not_mem_nil,or_false,List.toList_toArray]at hu
 rcases hu with⟨b,_,rfl⟩ | rfl | hu | ⟨i,_,rfl⟩
 · exact⟨_,rfl⟩
 · exact⟨_,rfl⟩
 · rw[List.eq_of_mem_replicate hu];exact⟨_,rfl⟩
 · exact⟨_,rfl⟩
theorem OJ(s:ByteArray){j:Nat}(h:j<(wF s).length):(wF s)[j]?=some (.int .u8 (nC s j)):=by
 obtain⟨v,hv⟩:=Ql s _ (List.getElem_mem h)
 have e:nC s j=v:=by
  unfold nC
  rw[List.getD_eq_getElem?_getD,List.getElem?_eq_getElem h,hv]
  rfl
 rw[List.getElem?_eq_getElem h,hv,e]
theorem Nl(s:ByteArray):(wF s).length=s.size+1+zc s.size+8:=by
 unfold wF lK
 simp[byteCells,cH]
 omega
def blocks(s:ByteArray):Nat:=(s.size+1+zc s.size+8)/64
theorem xT(s:ByteArray):(wF s).length=64*blocks s:=by
 rw[Nl]
 have:=(Is s.size).1
 unfold blocks
 omega
def hash(K:Nat→Int)(s:ByteArray):Nat→Nat→Int
 | 0=>iv
 | n+1=>behind K (hash K s n) (sched fun j=>nC s (64*n+j))
def nE(h:Nat→Int):Nat→Nat→Int
 | 0=>fun _=>0
 | k+1=>mg (nE h k) (4*k) (h k) 4
def LU:(Nat→Int)→ByteArray→Nat→Int:=shut fun K s=>nE (hash K s (blocks s)) 8
end Dg
theorem Lt(w:World):Calls Tryz.prog 117 #[] w fun e w'=>e=.returned (.agg (Dg.zw Dg.iv))∧Below w.heap.size w w':=by
 go_enter Tryz.func117,Tryz.ntmps117
 go_wp2_with fail
 refine bodyPost_ret (v:=.agg (Dg.zw Dg.iv)) ?_ rfl ⟨rfl,(Below.refl _ _).alloc (Nat.le_refl _) _⟩
 exact results_cell_row rfl _ _ _ _ _ _ _ rfl (heap_alloc_new w _) Tryz.underlying230 rfl (by kernel_rfl)
theorem JH(W:World)(g k:Nat)(h:k<8):(Instr.sliceAt 105 (.pointer (some ⟨g,0,none⟩)) (some (.int .i64 (4*(k:Int)))) none none).run Tryz.prog W=.ok (.slice (some ⟨g,4*k,none⟩) (32-4*k) (32-4*k)) W:=by
 have h3:(0:Int)≤4*(k:Int):=by omega
 have e2:(4*(k:Int)).toNat=4*k:=by omega
 have h4:4*(k:Int)≤32:=by omega
 have h5:¬32=4*k:=by omega
 have dR:(⟨g,0,none⟩:Addr).add (4*k)=⟨g,4*k,none⟩:=by unfold Addr.add;split<;>simp_all
 have hu:=run_underlying Tryz.underlying105 W
 have cr:=Tryz.sizeOf5 W
 unfold Instr.sliceAt
 simp[hu,Instr.sureAddr,Instr.sliceBounds,Instr.sliceBound,asIntOf,h3,e2,h4,h5,cr,dR]
theorem Ut(K:Nat→Int)(s:ByteArray)(w:World)(hK:Dg.C4 w K)(hs:s.size≤100000000000):Calls Tryz.prog 60 #[.string s] w fun e w'=>e=.returned (.agg (Dg.bp 32 .u8 (Dg.LU K s)))∧Below w.heap.size w w':=by
 have HE:Hid (Dg.LU K s=Dg.nE (Dg.hash K s (Dg.blocks s)) 8):=by
  have:Dg.LU K s=Dg.nE (Dg.hash K s (Dg.blocks s)) 8:=by unfold Dg.LU;rw[Dg.jm]
  exact this
 have HK:Hid (Dg.C4 w K):=hK
 clear hK
 obtain⟨w0,di⟩:∃w0,w0=w.alloc (.cells (Dg.bp 32 .u8 (fun _=>0)) 105):=⟨_,rfl⟩
 have bK:Below w.heap.size w w0:=by rw[di];exact(Below.refl _ _).alloc (Nat.le_refl _) _
 have eX:w0.heap[w.heap.size]?=some (.cells (Dg.bp 32 .u8 (fun _=>0)) 105 (0,0)):=by rw[di];exact heap_alloc_new w _
 have eo:=Lt w0
 have e8:Dg.zw Dg.iv=#[.int .u32 (Dg.iv 0),.int .u32 (Dg.iv 1),.int .u32 (Dg.iv 2),.int .u32 (Dg.iv 3),.int .u32 (Dg.iv 4),.int .u32 (Dg.iv 5),.int .u32 (Dg.iv 6),.int .u32 (Dg.iv 7)]:=rfl
 rw[e8]at eo
 go_enter Tryz.func60,Tryz.ntmps60
 go_upto_region 1 with fail
 rw[←Dg.GW,←di]
 clear di e8
 go_upto_region 2 with(go_at_call 117;refine eo.mono ?_;rintro e w1 ⟨rfl,bk⟩)
 have Nf:Hid (∀W:World,Calls Tryz.prog 118 #[.string s] W fun e w2=>∃g cap,e=.returned (.slice (some ⟨g,0,none⟩) (64*Dg.blocks s) cap)∧64*Dg.blocks s≤cap∧g<w2.heap.size∧Hid (∀j,j<64*Dg.blocks s→w2.cell? ⟨g,j,none⟩=some (.int .u8 (Dg.nC s j)))∧Hid (Below W.heap.size W w2)∧W.heap.size≤g):=by
  intro W
  refine(Qm W s hs).mono ?_
  rintro e w2 ⟨v,n,rfl,bV,hb⟩
  have hn:n=64*Dg.blocks s:=by rw[←bV.1,Dg.xT]
  subst hn
  obtain⟨g,cap,rfl,hB,mh,na,dt⟩:=bV.lt
  exact⟨g,cap,rfl,na,mh,fun j hj=>dt j _ (Dg.OJ s (by rw[Dg.xT];exact hj)),hb,hB⟩
 have mQ:Hid (Below w.heap.size w w1):=bK.trans (bk.mono bK.size)
 have ZE:Hid (w1.heap[w.heap.size]?=some (.cells (Dg.bp 32 .u8 (fun _=>0)) 105 (0,0))):=by
  rw[bk.block _ (lt_of_heap eX)]
  exact eX
 have fE:Dg.blocks s≤10000000000:=by unfold Dg.blocks Dg.zc;omega
 clear eo bK eX bk
 go_upto_region 3 with(go_at_call 118;refine(Nf.out _).mono ?_;rintro e w2 ⟨g,cap,rfl,na,mh,HC,Hg,Ia⟩)
 rw[World.size_alloc]at Ia
 have HH:Hid (w2.heap[w1.heap.size]?=some (.cells (Dg.bp 8 .u32 (Dg.hash K s 0)) 230 (0,0))):=by
  rw[Hg.out.block _ (by simp)]
  exact heap_alloc_new w1 _
 have Xd:Hid (w2.heap[w.heap.size]?=some (.cells (Dg.bp 32 .u8 (fun _=>0)) 105 (0,0))):=by
  have aC:=lt_of_heap ZE.out
  rw[Hg.out.block _ (by simp;omega),Below.heap_alloc _ _ _ aC]
  exact ZE.out
 have C2:Hid (Below w.heap.size w w2):=(mQ.out.alloc mQ.out.size _).trans (Hg.out.mono (by have:=mQ.out.size;simp;omega))
 have hws:w.heap.size≤w1.heap.size:=mQ.out.size
 have sP:w.heap.size≠w1.heap.size:=by have:=lt_of_heap ZE.out;omega
 generalize Ud:Dg.blocks s=B at na HC fE HE
 clear Ud Nf
 go_wp2_with fail
 go_loopw [5] (fun i wr=>∃n p:Nat,p=64*n∧n≤B∧i=.int .i64 p∧wr.heap[w1.heap.size]?=some (.cells (Dg.bp 8 .u32 (Dg.hash K s n)) 230 (0,0))∧Kb [w1.heap.size] w2 wr) (fun i _=>64*B-(intOf i).toNat)
 case atStart=>exact⟨0,0,rfl,Nat.zero_le _,rfl,HH.out,Kb.refl _ _⟩
 case round=>
  obtain⟨n,p,hp,hn,rfl,hv,fC⟩:=hrel
  have HP:Hid (p=64*n):=hp
  have FE:Hid (Kb [w1.heap.size] w2 wr):=fC
  have Wn:=lt_of_heap hv
  have HBR:Hid (Below w.heap.size w wr):=fC.aK C2.out C2.out.size (by simp;omega)
  by_cases aC:n<B
  · have gG:Hid (Dg.hash K s (n+1)=Dg.behind K (Dg.hash K s n) (Dg.sched fun j=>Dg.nC s (64*n+j))):=(rfl:Dg.hash K s (n+1)=_)
    generalize Dg.hash K s n=h at hv gG
    have c0:wr.cell? ⟨w1.heap.size,0,none⟩=some (.int .u32 (h 0)):=Dg.aw hv (by decide)
    have c1:wr.cell? ⟨w1.heap.size,1,none⟩=some (.int .u32 (h 1)):=Dg.aw hv (by decide)
    have c2:wr.cell? ⟨w1.heap.size,2,none⟩=some (.int .u32 (h 2)):=Dg.aw hv (by decide)
    have c3:wr.cell? ⟨w1.heap.size,3,none⟩=some (.int .u32 (h 3)):=Dg.aw hv (by decide)
    have c4:wr.cell? ⟨w1.heap.size,4,none⟩=some (.int .u32 (h 4)):=Dg.aw hv (by decide)
    have c5:wr.cell? ⟨w1.heap.size,5,none⟩=some (.int .u32 (h 5)):=Dg.aw hv (by decide)
    have c6:wr.cell? ⟨w1.heap.size,6,none⟩=some (.int .u32 (h 6)):=Dg.aw hv (by decide)
    have c7:wr.cell? ⟨w1.heap.size,7,none⟩=some (.int .u32 (h 7)):=Dg.aw hv (by decide)
    have hcb:Hid (∀(W:World),Below wr.heap.size wr W→Calls Tryz.prog 120 #[.slice (some ⟨g,64*n,none⟩) 64 (cap-64*n)] W fun e w3=>e=.returned (.agg (Dg.bp 64 .u32 (Dg.sched fun j=>Dg.nC s (64*n+j))))∧(w3.cell? ⟨w1.heap.size,0,none⟩=some (.int .u32 (h 0))∧w3.cell? ⟨w1.heap.size,1,none⟩=some (.int .u32 (h 1))∧w3.cell? ⟨w1.heap.size,2,none⟩=some (.int .u32 (h 2))∧w3.cell? ⟨w1.heap.size,3,none⟩=some (.int .u32 (h 3))∧w3.cell? ⟨w1.heap.size,4,none⟩=some (.int .u32 (h 4))∧w3.cell? ⟨w1.heap.size,5,none⟩=some (.int .u32 (h 5))∧w3.cell? ⟨w1.heap.size,6,none⟩=some (.int .u32 (h 6))∧w3.cell? ⟨w1.heap.size,7,none⟩=some (.int .u32 (h 7)))∧w1.heap.size<w3.heap.size∧Hid (Below wr.heap.size wr w3)):=by
     intro W hW
     have vE:∀j,j<64→W.cell? ⟨g,64*n+j,none⟩=some (.int .u8 (Dg.nC s (64*n+j))):=by
      intro j hj
      have e1:wr.cell? ⟨g,64*n+j,none⟩=w2.cell? ⟨g,64*n+j,none⟩:=World.cell?_of_block (FE.out.block g mh (by simp only[List.mem_singleton];omega))
      rw[hW.cell (show g<wr.heap.size from Nat.lt_of_lt_of_le mh FE.out.size),e1]
      exact HC.out _ (by omega)
     refine(Ly W g (64*n) (cap-64*n) _ (by omega) vE).mono ?_
     rintro e w3 ⟨rfl,hb⟩
     have eB:Below wr.heap.size wr w3:=hW.trans (hb.mono hW.size)
     have L0:w3.heap[w1.heap.size]?=some (.cells (Dg.bp 8 .u32 h) 230 (0,0)):=by
      rw[eB.block _ Wn];exact hv
     exact⟨rfl,⟨Dg.aw L0 (by decide),Dg.aw L0 (by decide),Dg.aw L0 (by decide),Dg.aw L0 (by decide),Dg.aw L0 (by decide),Dg.aw L0 (by decide),Dg.aw L0 (by decide),Dg.aw L0 (by decide)⟩,lt_of_heap L0,eB⟩
    have lW:Hid (∀(W:World),Below wr.heap.size wr W→Calls Tryz.prog 119 #[.agg #[.int .u32 (h 0),.int .u32 (h 1),.int .u32 (h 2),.int .u32 (h 3),.int .u32 (h 4),.int .u32 (h 5),.int .u32 (h 6),.int .u32 (h 7)],.agg (Dg.bp 64 .u32 (Dg.sched fun j=>Dg.nC s (64*n+j)))] W fun e w4=>e=.returned (.agg #[.int .u32 (Dg.behind K h (Dg.sched fun j=>Dg.nC s (64*n+j)) 0),.int .u32 (Dg.behind K h (Dg.sched fun j=>Dg.nC s (64*n+j)) 1),.int .u32 (Dg.behind K h (Dg.sched fun j=>Dg.nC s (64*n+j)) 2),.int .u32 (Dg.behind K h (Dg.sched fun j=>Dg.nC s (64*n+j)) 3),.int .u32 (Dg.behind K h (Dg.sched fun j=>Dg.nC s (64*n+j)) 4),.int .u32 (Dg.behind K h (Dg.sched fun j=>Dg.nC s (64*n+j)) 5),.int .u32 (Dg.behind K h (Dg.sched fun j=>Dg.nC s (64*n+j)) 6),.int .u32 (Dg.behind K h (Dg.sched fun j=>Dg.nC s (64*n+j)) 7)])∧(w4.cell? ⟨w1.heap.size,0,none⟩=some (.int .u32 (h 0))∧w4.cell? ⟨w1.heap.size,1,none⟩=some (.int .u32 (h 1))∧w4.cell? ⟨w1.heap.size,2,none⟩=some (.int .u32 (h 2))∧w4.cell? ⟨w1.heap.size,3,none⟩=some (.int .u32 (h 3))∧w4.cell? ⟨w1.heap.size,4,none⟩=some (.int .u32 (h 4))∧w4.cell? ⟨w1.heap.size,5,none⟩=some (.int .u32 (h 5))∧w4.cell? ⟨w1.heap.size,6,none⟩=some (.int .u32 (h 6))∧w4.cell? ⟨w1.heap.size,7,none⟩=some (.int .u32 (h 7)))∧(w4.frozen? ⟨w1.heap.size,0,none⟩=false∧w4.frozen? ⟨w1.heap.size,1,none⟩=false∧w4.frozen? ⟨w1.heap.size,2,none⟩=false∧w4.frozen? ⟨w1.heap.size,3,none⟩=false∧w4.frozen? ⟨w1.heap.size,4,none⟩=false∧w4.frozen? ⟨w1.heap.size,5,none⟩=false∧w4.frozen? ⟨w1.heap.size,6,none⟩=false∧w4.frozen? ⟨w1.heap.size,7,none⟩=false)∧w1.heap.size<w4.heap.size∧Hid (w4.heap[w1.heap.size]?=some (.cells #[.int .u32 (h 0),.int .u32 (h 1),.int .u32 (h 2),.int .u32 (h 3),.int .u32 (h 4),.int .u32 (h 5),.int .u32 (h 6),.int .u32 (h 7)] 230 (0,0))∧Below wr.heap.size wr w4)):=by
     intro W hW
     refine(GY K h _ W ((HK.out.below HBR.out).below hW)).mono ?_
     rintro e w4 ⟨rfl,hb⟩
     have lZ:Below wr.heap.size wr w4:=hW.trans (hb.mono hW.size)
     have C7:w4.heap[w1.heap.size]?=some (.cells (Dg.bp 8 .u32 h) 230 (0,0)):=by
      rw[lZ.block _ Wn];exact hv
     exact⟨rfl,⟨Dg.aw C7 (by decide),Dg.aw C7 (by decide),Dg.aw C7 (by decide),Dg.aw C7 (by decide),Dg.aw C7 (by decide),Dg.aw C7 (by decide),Dg.aw C7 (by decide),Dg.aw C7 (by decide)⟩,⟨Dg.bh C7 _,Dg.bh C7 _,Dg.bh C7 _,Dg.bh C7 _,Dg.bh C7 _,Dg.bh C7 _,Dg.bh C7 _,Dg.bh C7 _⟩,lt_of_heap C7,C7,lZ⟩
    generalize Dg.behind K h (Dg.sched fun j=>Dg.nC s (64*n+j))=h' at lW gG
    generalize (Dg.sched fun j=>Dg.nC s (64*n+j))=ws at hcb lW
    have hpc:p+64≤cap:=by omega
    have yB:p<64*B:=by omega
    rw[←hp]at hcb
    have lu:p≤1000000000000:=by omega
    clear fC hv hp
    go_upto_block 1 with fail
    go_cut [5]from 12 to 25 (fun v wx=>v=.int .i64 p∧wx.heap[w1.heap.size]?=some (.cells (Dg.bp 8 .u32 (Dg.hash K s (n+1))) 230 (0,0))∧Kb [w1.heap.size] w2 wx)
    case first=>
     go_upto_region 6 with fail
     have k1:(0:Int)≤(p:Int)+64:=by omega
     have k2:(p:Int)+64≤(cap:Int):=by omega
     have k4:((p:Int)+64).toNat=p+64:=by omega
     have k5:¬cap=p:=by omega
     have kw:IntKind.i64.wrap ((p:Int)+64)=(p:Int)+64:=by simp[IntKind.wrap,IntKind.bits,IntKind.signed];omega
     have kw2:wrap64 ((p:Int)+64)=(p:Int)+64:=by unfold wrap64;omega
     go_region_with (first | (go_at_call 120;refine(hcb.out _ (by exact(Below.refl _ _).drew)).mono ?_;rintro e w3 ⟨rfl,⟨d0,d1,d2,d3,d4,d5,d6,d7⟩,hl3,Z5⟩) | (go_at_call 119;refine(lW.out _ (by exact Z5.out)).mono ?_;rintro e w4 ⟨rfl,⟨a0,a1,a2,a3,a4,a5,a6,a7⟩,⟨f0,f1,f2,f3,f4,f5,f6,f7⟩,hl4,HV4⟩))
     all_goals
      (obtain⟨q1,q2⟩:=vT HV4.out.1 (.int .u32 (h' 0)) (.int .u32 (h' 1)) (.int .u32 (h' 2)) (.int .u32 (h' 3)) (.int .u32 (h' 4)) (.int .u32 (h' 5)) (.int .u32 (h' 6)) (.int .u32 (h' 7))
       have HQ:Hid (Kb [w1.heap.size] w2 w4):=FE.out.below HV4.out.2
       go_wp2_with fail
       go_meet
       exact⟨rfl,by rw[gG.out];exact q1,HQ.out.trans q2⟩)
    case rest=>
     obtain⟨rfl,hv5,hk5⟩:=hcut
     have HV5:Hid (wc.heap[w1.heap.size]?=some (.cells (Dg.bp 8 .u32 (Dg.hash K s (n+1))) 230 (0,0))):=hv5
     have HK5:Hid (Kb [w1.heap.size] w2 wc):=hk5
     clear hv5 hk5
     go_wp2_with fail
     go_roundw
     case rel=>exact⟨n+1,p+64,by have:=HP.out;omega,by omega,by go_num,HV5.out,HK5.out⟩
     case measure=>simp[intOf];omega
  · have HF:Hid (wr.heap[w1.heap.size]?=some (.cells (Dg.bp 8 .u32 (Dg.hash K s B)) 230 (0,0))):=by
     have hnB:n=B:=by omega
     rw[hnB]at hv
     exact hv
    have HZR:Hid (wr.heap[w.heap.size]?=some (.cells (Dg.bp 32 .u8 (fun _=>0)) 105 (0,0))):=FE.out.heap Xd.out (by simp only[List.mem_singleton];omega)
    have ajV:¬p<64*B:=by omega
    generalize Dg.hash K s B=h at HF HE
    clear hv fC hp
    obtain⟨wA,rfl⟩:∃x,x=wr:=⟨_,rfl⟩
    go_upto_region 8 with fail
    rw[←Dg.GW]
    obtain⟨w3,TD⟩:∃w3,w3=wA.alloc (.cells (Dg.bp 32 .u8 (fun _=>0)) 105):=⟨_,rfl⟩
    have eB:Below wA.heap.size wA w3:=by rw[TD];exact(Below.refl _ _).alloc (Nat.le_refl _) _
    have hd3:w3.heap[wA.heap.size]?=some (.cells (Dg.bp 32 .u8 (Dg.nE h 0)) 105 (0,0)):=by rw[TD];exact heap_alloc_new wA _
    have hh3:w3.heap[w1.heap.size]?=some (.cells (Dg.bp 8 .u32 h) 230 (0,0)):=by rw[eB.block _ (lt_of_heap HF.out)];exact HF.out
    have HZ3:Hid (w3.heap[w.heap.size]?=some (.cells (Dg.bp 32 .u8 (fun _=>0)) 105 (0,0))):=by rw[eB.block _ (lt_of_heap HZR.out)];exact HZR.out
    rw[←TD]
    clear TD
    have HD3:Hid (w3.heap[wA.heap.size]?=some (.cells (Dg.bp 32 .u8 (Dg.nE h 0)) 105 (0,0))):=hd3
    have hzl:=lt_of_heap HZR.out
    have Z5:Hid (Below w.heap.size w w3):=HBR.out.trans (eB.mono HBR.out.size)
    clear hd3 eB
    have hix:∀(W:World) (i:Nat),i<8→(Instr.index 230 (.agg (Dg.bp 8 .u32 h)) (.int .i64 i)).run Tryz.prog W=.ok (.int .u32 (h i)) W:=fun W i hi=>AB Tryz.underlying230 W hi
    go_wp2_with (refine wpList_load_row rfl 230 (.tmp 3) rfl w1.heap.size rfl _ _ _ _ hh3 Tryz.underlying230 rfl (by rw[Dg.cH];kernel_rfl) ?_)
    go_loopw [27] (fun i wr=>∃k:Nat,k≤8∧i=.int .i64 k∧wr.heap[wA.heap.size]?=some (.cells (Dg.bp 32 .u8 (Dg.nE h k)) 105 (0,0))∧Kb [wA.heap.size] w3 wr) (fun i _=>8-(intOf i).toNat)
    case atStart=>exact⟨0,by omega,rfl,HD3.out,Kb.refl _ _⟩
    case round=>
     obtain⟨k,hk,rfl,hv,fC⟩:=hrel
     have Ec:Hid (Kb [wA.heap.size] w3 wr):=fC
     have Wn:=lt_of_heap hv
     by_cases XZ:k<8
     · have hi:=hix wr k XZ
       have hsl:=JH wr wA.heap.size k XZ
       have hpw:Hid (Calls Tryz.prog 121 #[.slice (some ⟨wA.heap.size,4*k,none⟩) (32-4*k) (32-4*k),.int .u32 (h k)] wr fun e w5=>e=.returned (.tuple #[])∧Hid (w5.heap[wA.heap.size]?=some (.cells (Dg.bp 32 .u8 (Dg.nE h (k+1))) 105 (0,0))∧Kb [wA.heap.size] w3 w5)):=by
        refine(oC wr wA.heap.size (4*k) (32-4*k) (32-4*k) 32 105 (Dg.nE h k) (h k) (by omega) (by omega) hv).mono ?_
        rintro e w5 ⟨rfl,q1,q2⟩
        exact⟨rfl,q1,Ec.out.trans q2⟩
       clear hv fC
       go_wp2_with (go_at_call 121;refine hpw.out.mono ?_;rintro e w5 ⟨rfl,Q5⟩)
       go_roundw
       case rel=>exact⟨k+1,by omega,by go_num,Q5.out.1,Q5.out.2⟩
       case measure=>simp[intOf];omega
     · have XO:wr.heap[wA.heap.size]?=some (.cells (Dg.bp 32 .u8 (Dg.nE h 8)) 105 (0,0)):=by
        have hk8:k=8:=by omega
        rw[hk8]at hv
        exact hv
       have hz:wr.heap[w.heap.size]?=some (.cells (Dg.bp 32 .u8 (fun _=>0)) 105 (0,0)):=Ec.out.heap HZ3.out (by simp only[List.mem_singleton];omega)
       have lW:Below w.heap.size w wr:=Ec.out.aK Z5.out Z5.out.size (by simp;omega)
       have dU:Hid (Below w.heap.size w (wr.setRow w.heap.size (Dg.bp 32 .u8 (Dg.nE h 8)))):=(Kb.setRow wr w.heap.size _).aK lW lW.size (by simp)
       have bV:Hid ((wr.setRow w.heap.size (Dg.bp 32 .u8 (Dg.nE h 8))).heap[w.heap.size]?=some (.cells (Dg.bp 32 .u8 (Dg.nE h 8)) 105 (0,0))):=bq wr w.heap.size _ hz
       generalize Dg.nE h 8=f at XO HE dU bV
       clear hv fC lW
       go_wp2_with (first | (refine wpList_load_row rfl 105 (.tmp 6) rfl wA.heap.size rfl _ _ _ _ XO Tryz.underlying105 rfl (by rw[Dg.cH];kernel_rfl) ?_) | (refine wpList_store_row rfl 105 (.tmp 2) (.tmp 37) rfl w.heap.size rfl (Dg.bp 32 .u8 f) rfl _ _ hz (by rw[Dg.cH,Dg.cH]) (by rw[Dg.cH];kernel_rfl) (Dg.yo _ _ _) ?_))
       refine bodyPost_ret (v:=.agg (Dg.bp 32 .u8 f)) ?_ rfl ⟨by rw[HE.out],dU.out⟩
       exact results_cell_row rfl _ _ _ _ _ _ _ rfl bV.out Tryz.underlying105 rfl (by rw[Dg.cH];kernel_rfl)
end
/- Package record: Head. -/
section
open Go.RowKit
namespace Dg
theorem Of(word:Int)(k:Nat):0≤byte word k∧byte word k<256:=by
 have e:byte word k=word/2^(24-8*k)%256:=by unfold byte;rw[jm];rfl
 rw[e]
 omega
theorem M2{f:Nat→Int}(h:∀j,0≤f j∧f j<256)(o:Nat)(word:Int)(k:Nat):∀j,0≤mg f o word k j∧mg f o word k j<256:=by
 intro j
 unfold mg
 split
 · exact Of _ _
 · exact h j
theorem DN(h:Nat→Int):∀k j,0≤nE h k j∧nE h k j<256
 | 0,j=>by unfold nE;omega
 | k+1,j=>by
  unfold nE
  exact M2 (DN h k) _ _ _ j
theorem QP(K:Nat→Int)(s:ByteArray)(j:Nat):0≤LU K s j∧LU K s j<256:=by
 have e:LU K s=nE (hash K s (blocks s)) 8:=by unfold LU;rw[jm]
 rw[e]
 exact DN _ _ _
def GL(K:Nat→Int)(s:ByteArray):List UInt8:=(List.range 32).map fun j=>UInt8.ofNat (LU K s j).toNat
theorem xz(K:Nat→Int)(s:ByteArray):(GL K s).length=32:=by simp[GL]
theorem OY(K:Nat→Int)(s:ByteArray):bp 32 .u8 (LU K s)=(Rc.bB (GL K s)).toArray:=by
 unfold bp GL Rc.bB
 rw[List.map_map]
 congr 1
 refine List.map_congr_left fun j _=> ?_
 obtain⟨h1,h2⟩:=QP K s j
 have e:(UInt8.ofNat (LU K s j).toNat).toNat=(LU K s j).toNat:=by simp;omega
 simp only[Function.comp]
 rw[e]
 congr 1
 omega
end Dg
theorem Ew(K:Nat→Int)(s:ByteArray)(w:World)(hK:Dg.C4 w K)(hs:s.size≤100000000000):Calls Tryz.prog 60 #[.string s] w fun e w'=>e=.returned (.agg (Rc.bB (Dg.GL K s)).toArray)∧Below w.heap.size w w':=by
 rw[←Dg.OY]
 exact Ut K s w hK hs
def oY(K:Nat→Int)(ahead:List UInt8)(content:ByteArray):List UInt8:=Dg.GL K (⟨ahead.toArray⟩++content)
theorem Gp(K:Nat→Int)(w:World)(ahead:List UInt8)(content:ByteArray)(hK:Dg.C4 w K)(ha:ahead.length=32)(hs:content.size≤10000000000):
 Calls Tryz.prog 70 #[.agg (Rc.bB ahead).toArray,.string content] w fun e w'=>e=.returned (.agg (Rc.bB (oY K ahead content)).toArray)∧Below w.heap.size w w':=by
 have Ro:(Rc.bB ahead).length=32:=by rw[Rc.bC,ha]
 have j0:=heap_alloc2_old w (.cells (Rc.bB ahead).toArray 105) (.cells (Dg.bp 32 .u8 (fun _=>0)) 105)
 have j1:=heap_alloc2_new w (.cells (Rc.bB ahead).toArray 105) (.cells (Dg.bp 32 .u8 (fun _=>0)) 105)
 have jb:Below w.heap.size w ((w.alloc (.cells (Rc.bB ahead).toArray 105)).alloc (.cells (Dg.bp 32 .u8 (fun _=>0)) 105)):=((Below.refl _ _).alloc (Nat.le_refl _) _).alloc (by simp) _
 obtain⟨w0,di⟩:∃w0,w0=(w.alloc (.cells (Rc.bB ahead).toArray 105)).alloc (.cells (Dg.bp 32 .u8 (fun _=>0)) 105):=⟨_,rfl⟩
 rw[←di]at j0 j1 jb
 have Ml:(convert 63 9 (.slice (some ⟨w.heap.size,0,none⟩) 32 32)).run Tryz.prog w0=.ok (.string ⟨ahead.toArray⟩) w0:=by
  rw[←ha]
  refine run_convert_bytes_back w0 63 9 5 ⟨w.heap.size,0,none⟩ _ ahead Tryz.underlying63 Tryz.underlying5 Tryz.underlying9 ?_
  intro j hj
  have dR:(⟨w.heap.size,0,none⟩:Addr).add j=⟨w.heap.size,j,none⟩:=by unfold Addr.add;split<;>simp_all
  rw[dR,cell_of_row _ _ _ _ _ _ j0,List.getElem?_toArray,Rc.bB,List.getElem?_map,List.getElem?_eq_getElem hj]
  rfl
 have cr:(⟨ahead.toArray⟩:ByteArray).size=32:=ha
 have hof:Hid (Calls Tryz.prog 60 #[.string (⟨ahead.toArray⟩++content)] w0 fun e w1=>e=.returned (.agg (Rc.bB (oY K ahead content)).toArray)∧w1.heap[w.heap.size+1]?=some (.cells (Dg.bp 32 .u8 (fun _=>0)) 105 (0,0))∧Hid (Below w.heap.size w w1)):=by
  refine(Ew K _ w0 (hK.below jb) ?_).mono ?_
  · rw[ByteArray.size_append,cr];omega
  · rintro e w1 ⟨rfl,bk⟩
    refine⟨rfl, ?_,jb.trans (bk.mono jb.size)⟩
    rw[bk.block _ (lt_of_heap j1)]
    exact j1
 have WS:(oY K ahead content).length=32:=Dg.xz _ _
 generalize oY K ahead content=hd at hof WS
 clear j0 j1 jb Ro cr
 go_enter Tryz.func70,Tryz.ntmps70
 go_upto_region 1 with fail
 rw[←Dg.GW,←di]
 clear di
 go_wp2_with (first | (go_at_call 60;refine hof.out.mono ?_;rintro e w1 ⟨rfl,eP,bk⟩) | (refine wpList_store_row rfl 105 (.tmp 4) (.tmp 9) rfl (w.heap.size+1) rfl (Rc.bB hd).toArray rfl _ _ eP (by rw[Dg.cH];simp[Rc.bC,WS]) (by simp only[List.size_toArray,Rc.bC,WS];kernel_rfl) (by simpa using Rc.qR hd) ?_))
 have dU:=(Kb.setRow w1 (w.heap.size+1) (Rc.bB hd).toArray).aK bk.out bk.out.size (by simp)
 refine bodyPost_ret (v:=.agg (Rc.bB hd).toArray) ?_ rfl ⟨rfl,dU⟩
 exact results_cell_row rfl _ _ _ _ _ _ _ rfl (bq w1 _ _ eP) Tryz.underlying105 rfl (by simp only[List.size_toArray,Rc.bC,WS];kernel_rfl)
end
end Go.Proofs.YtdmicblafmhflaaGreatDoor
