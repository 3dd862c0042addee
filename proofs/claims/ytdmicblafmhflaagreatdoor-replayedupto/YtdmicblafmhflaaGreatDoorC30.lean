/- Package digest: words turned; a round. -/
import Derived.Test.YtdmicblafmhflaaGreatDoorC17
import Derived.Laws.Closers25b
import Derived.BigQuiet
import Derived.Deep.QuietTactic
import Derived.Deep.CutRange
import Derived.Deep.RegionHeld3
set_option linter.unusedSimpArgs false
set_option linter.unusedVariables false
set_option maxHeartbeats 4000000
set_option maxRecDepth 100000
namespace Go.Proofs.YtdmicblafmhflaaGreatDoor
section
open Go.RowKit
namespace Dg
def shutN {α : Type} (f : α) (n : Nat) : α := if n = 0 then f else shutN f (n / 2)
def shut {α : Type} (f : α) : α := shutN f 0
theorem ja{α:Type}(f:α):shut f=f:= by unfold shut shutN; rw [if_pos rfl]
def sh(k:Int):Int:=bits .and .u64 (IntKind.u64.wrap k) 31
def Vm(x k:Int):Int:=bits .or .u32 (IntKind.u32.wrap (x*2^min (sh k).toNat IntKind.u32.bits)) (x/2^min (IntKind.u64.wrap (32-sh k)).toNat IntKind.u32.bits)
def Wu:Int→Int→Int:=shut Vm
def turn:Int→Int→Int:=shut fun x b=>Wu x (wrap64 (-b))
def zu(s:Nat→Int):Array Value:=#[.int .u32 (s 0),.int .u32 (s 1),.int .u32 (s 2),.int .u32 (s 3),.int .u32 (s 4),.int .u32 (s 5),.int .u32 (s 6),.int .u32 (s 7)]
def t1(s:Nat→Int)(word:Int):Int:=s 7+bits .xor .u32 (bits .xor .u32 (turn (s 4) 6) (turn (s 4) 11)) (turn (s 4) 25)+bits .xor .u32 (bits .and .u32 (s 4) (s 5)) (bits .and .u32 (bits .xor .u32 IntKind.u32.max (s 4)) (s 6))+word
def t2(s:Nat→Int):Int:=bits .xor .u32 (bits .xor .u32 (turn (s 0) 2) (turn (s 0) 13)) (turn (s 0) 22)+bits .xor .u32 (bits .xor .u32 (bits .and .u32 (s 0) (s 1)) (bits .and .u32 (s 0) (s 2))) (bits .and .u32 (s 1) (s 2))
def Gz(s:Nat→Int)(word:Int)(i:Nat):Int:=match i with
 | 0=>(t1 s word+t2 s)%4294967296
 | 1=>s 0
 | 2=>s 1
 | 3=>s 2
 | 4=>(s 3+t1 s word)%4294967296
 | 5=>s 4
 | 6=>s 5
 | _=>s 6
def Fh:(Nat→Int)→Int→Nat→Int:=shut Gz
end Dg
theorem vM{w2:World}{k:Nat}{T:TypeId}{a0 a1 a2 a3 a4 a5 a6 a7:Value}(r:w2.heap[k]?=some (.cells #[a0,a1,a2,a3,a4,a5,a6,a7] T (0,0)))(v0 v1 v2 v3 v4 v5 v6 v7:Value):
 ((((((((w2.setCell ⟨k,0,none⟩ v0).setCell ⟨k,1,none⟩ v1).setCell ⟨k,2,none⟩ v2).setCell ⟨k,3,none⟩ v3).setCell ⟨k,4,none⟩ v4).setCell ⟨k,5,none⟩ v5).setCell ⟨k,6,none⟩ v6).setCell ⟨k,7,none⟩ v7).heap[k]?=some (.cells #[v0,v1,v2,v3,v4,v5,v6,v7] T (0,0))∧
 Kb [k] w2 ((((((((w2.setCell ⟨k,0,none⟩ v0).setCell ⟨k,1,none⟩ v1).setCell ⟨k,2,none⟩ v2).setCell ⟨k,3,none⟩ v3).setCell ⟨k,4,none⟩ v4).setCell ⟨k,5,none⟩ v5).setCell ⟨k,6,none⟩ v6).setCell ⟨k,7,none⟩ v7):=by
 refine⟨?_,(((((((Kb.setCell w2 ⟨k,0,none⟩ v0).trans (Kb.setCell _ ⟨k,1,none⟩ v1)).trans (Kb.setCell _ ⟨k,2,none⟩ v2)).trans (Kb.setCell _ ⟨k,3,none⟩ v3)).trans (Kb.setCell _ ⟨k,4,none⟩ v4)).trans (Kb.setCell _ ⟨k,5,none⟩ v5)).trans (Kb.setCell _ ⟨k,6,none⟩ v6)).trans (Kb.setCell _ ⟨k,7,none⟩ v7)⟩
 have h0:(w2.setCell ⟨k,0,none⟩ v0).heap[k]?=some (.cells #[v0,a1,a2,a3,a4,a5,a6,a7] T (0,0)):=an w2 r 0 v0
 generalize w2.setCell ⟨k,0,none⟩ v0=x0 at h0 ⊢
 have h1:(x0.setCell ⟨k,1,none⟩ v1).heap[k]?=some (.cells #[v0,v1,a2,a3,a4,a5,a6,a7] T (0,0)):=an x0 h0 1 v1
 generalize x0.setCell ⟨k,1,none⟩ v1=x1 at h1 ⊢
 have h2:(x1.setCell ⟨k,2,none⟩ v2).heap[k]?=some (.cells #[v0,v1,v2,a3,a4,a5,a6,a7] T (0,0)):=an x1 h1 2 v2
 generalize x1.setCell ⟨k,2,none⟩ v2=x2 at h2 ⊢
 have h3:(x2.setCell ⟨k,3,none⟩ v3).heap[k]?=some (.cells #[v0,v1,v2,v3,a4,a5,a6,a7] T (0,0)):=an x2 h2 3 v3
 generalize x2.setCell ⟨k,3,none⟩ v3=x3 at h3 ⊢
 have h4:(x3.setCell ⟨k,4,none⟩ v4).heap[k]?=some (.cells #[v0,v1,v2,v3,v4,a5,a6,a7] T (0,0)):=an x3 h3 4 v4
 generalize x3.setCell ⟨k,4,none⟩ v4=x4 at h4 ⊢
 have h5:(x4.setCell ⟨k,5,none⟩ v5).heap[k]?=some (.cells #[v0,v1,v2,v3,v4,v5,a6,a7] T (0,0)):=an x4 h4 5 v5
 generalize x4.setCell ⟨k,5,none⟩ v5=x5 at h5 ⊢
 have h6:(x5.setCell ⟨k,6,none⟩ v6).heap[k]?=some (.cells #[v0,v1,v2,v3,v4,v5,v6,a7] T (0,0)):=an x5 h5 6 v6
 generalize x5.setCell ⟨k,6,none⟩ v6=x6 at h6 ⊢
 exact an x6 h6 7 v7
theorem QL(x k:Int)(w:World):Calls Tryz.prog 244 #[.int .u32 x,.int .i64 k] w fun e w'=>e=.returned (.int .u32 (Dg.Wu x k))∧w'=w:=by
 have h0:0≤bits BinOp.and IntKind.u64 (IntKind.u64.wrap k) 31:=bits_lo_u64 _ _ _
 have e:Dg.Wu x k=Dg.Vm x k:=by unfold Dg.Wu;rw[Dg.ja]
 have HE:Hid (Dg.Wu x k=Dg.Vm x k):=e
 clear e
 go_enter Tryz.func244,Tryz.ntmps244
 go_wp2_with fail
 go_ret
 exact⟨by rw[HE.out];rfl,rfl⟩
theorem D7(x b:Int)(w:World):Calls Tryz.prog 195 #[.int .u32 x,.int .i64 b] w fun e w'=>e=.returned (.int .u32 (Dg.turn x b))∧w'=w:=by
 have e:Dg.turn x b=Dg.Wu x (wrap64 (-b)):=by unfold Dg.turn;rw[Dg.ja]
 rw[e]
 clear e
 go_enter Tryz.func195,Tryz.ntmps195
 go_wp2_with (go_at_call 244;refine(QL _ _ _).mono ?_;rintro e w' ⟨rfl,rfl⟩)
 go_ret
 exact⟨rfl,rfl⟩
theorem I4(s:Nat→Int)(word:Int)(w:World):Calls Tryz.prog 193 #[.agg (Dg.zu s),.int .u32 word] w fun e w'=>e=.returned (.agg (Dg.zu (Dg.Fh s word)))∧Below w.heap.size w w':=by
 have hc:=fun x b w=>D7 x b w
 have HE:Hid (Dg.Fh s word=Dg.Gz s word):=by
  have:Dg.Fh s word=Dg.Gz s word:=by unfold Dg.Fh;rw[Dg.ja]
  exact this
 unfold Dg.zu
 go_enter Tryz.func193,Tryz.ntmps193
 go_upto_region 1 with fail
 go_quiet (fail)
 go_wp2_with (go_at_call 195;refine(hc _ _ _).mono ?_;rintro e w' ⟨rfl,rfl⟩)
 have hz:(((w.alloc (.cells #[.int .u32 (s 0),.int .u32 (s 1),.int .u32 (s 2),.int .u32 (s 3),.int .u32 (s 4),.int .u32 (s 5),.int .u32 (s 6),.int .u32 (s 7)] 230)).alloc (.cells #[.int .u32 0,.int .u32 0,.int .u32 0,.int .u32 0,.int .u32 0,.int .u32 0,.int .u32 0,.int .u32 0] 230)).drewN nq).heap[w.heap.size+1]?=some (.cells #[.int .u32 0,.int .u32 0,.int .u32 0,.int .u32 0,.int .u32 0,.int .u32 0,.int .u32 0,.int .u32 0] 230 (0,0)):=qv w _ _
 have RG:Below w.heap.size w (((w.alloc (.cells #[.int .u32 (s 0),.int .u32 (s 1),.int .u32 (s 2),.int .u32 (s 3),.int .u32 (s 4),.int .u32 (s 5),.int .u32 (s 6),.int .u32 (s 7)] 230)).alloc (.cells #[.int .u32 0,.int .u32 0,.int .u32 0,.int .u32 0,.int .u32 0,.int .u32 0,.int .u32 0,.int .u32 0] 230)).drewN nq):=(((Below.refl _ _).alloc (Nat.le_refl _) _).alloc (by simp) _).trans ⟨rfl,rfl,rfl,Nat.le_refl _,fun _ _=>rfl⟩
 have uj:w.heap.size≤(((w.alloc (.cells #[.int .u32 (s 0),.int .u32 (s 1),.int .u32 (s 2),.int .u32 (s 3),.int .u32 (s 4),.int .u32 (s 5),.int .u32 (s 6),.int .u32 (s 7)] 230)).alloc (.cells #[.int .u32 0,.int .u32 0,.int .u32 0,.int .u32 0,.int .u32 0,.int .u32 0,.int .u32 0,.int .u32 0] 230)).drewN nq).heap.size:=RG.size
 generalize (((w.alloc (.cells #[.int .u32 (s 0),.int .u32 (s 1),.int .u32 (s 2),.int .u32 (s 3),.int .u32 (s 4),.int .u32 (s 5),.int .u32 (s 6),.int .u32 (s 7)] 230)).alloc (.cells #[.int .u32 0,.int .u32 0,.int .u32 0,.int .u32 0,.int .u32 0,.int .u32 0,.int .u32 0,.int .u32 0] 230)).drewN nq)=wz at hz RG uj ⊢
 obtain⟨k1,k2⟩:=vM hz (.int .u32 (Dg.Gz s word 0)) (.int .u32 (s 0)) (.int .u32 (s 1)) (.int .u32 (s 2)) (.int .u32 (Dg.Gz s word 4)) (.int .u32 (s 4)) (.int .u32 (s 5)) (.int .u32 (s 6))
 have hld:=run_loadVar_row (P:=Tryz.prog) _ _ _ 230 _ _ _ k1 Tryz.underlying230 rfl (by kernel_rfl)
 refine bodyPost_ret (v:=.agg #[.int .u32 (Dg.Gz s word 0),.int .u32 (s 0),.int .u32 (s 1),.int .u32 (s 2),.int .u32 (Dg.Gz s word 4),.int .u32 (s 4),.int .u32 (s 5),.int .u32 (s 6)]) ?_ rfl ⟨?_, ?_⟩
 · simp only[results,Tryz.results193]
   simp[asAddr]
   exact hld
 · rw[HE.out];rfl
 · exact k2.aK RG uj (by simp)
end
/- Package digest: a word of four bytes; rows of words. -/
section
open Go.RowKit
theorem Kb.drewN{S:List Nat}{w w':World}(h:Kb S w w')(n:Nat):Kb S w (w'.drewN n):=⟨h.os,h.tape,h.output,h.size,h.block⟩
theorem wpList_store_row{P:Program}{ops:Array Oper}{rest:List Oper}{o:Oper}{a:Act}{w:World}{Q:Exit→Act→World→Prop}(Aq:o.guard=none)(ty:TypeId)(x y:Operand)(ho:o.op=.store ty x y)
 (g:Nat)(hx:a.eval x=.pointer (some ⟨g,0,none⟩))(cs:Array Value)(hy:a.eval y=.agg cs)(t:TypeId)(cur:Array Value)(hg:w.heap[g]?=some (.cells cur t (0,0)))(hs:cs.size=cur.size)(hi:(P.info? ty).map (·.size)=some cs.size)(h1:∀v∈cs.toList,v.oneCell'=true)
 (h:wpList P ops Q rest (a.put o.dst undef) (w.setRow g cs)):wpList P ops Q (o::rest) a w:=by
 refine wpList_plain Aq fun K hK=> ?_
 have ev:=run_storeCells_at P g 0 t cs.toList 0 cur w hg (by simp;omega) h1
 have e:(cur.toList.take 0++cs.toList++cur.toList.drop (0+cs.toList.length)).toArray=cs:=by
  have:cur.toList.drop (0+cs.toList.length)=[]:=List.drop_eq_nil_of_le (by simp;omega)
  rw[this]
  simp
 simp only[Nat.add_zero]at ev
 rw[e]at ev
 cases hq:P.info? ty with
 | none=>simp[hq]at hi
 | some i=>
  have cE:i.size=cs.size:=by simpa [hq]using hi
  have hc:(Value.agg cs).cells=cs:=rfl
  unfold Oper.wp execOp
  simp[ho,hx,hy,Instr.storeAt,Instr.sureAddr,storeVar,hc,sizeOf,typeInfo,hq,cE,ev]
  exact hK _ _ h
namespace Dg
theorem xW(n:Nat)(k:IntKind)(f:Nat→Int):∀v∈(((List.range n).map fun i=>Value.int k (f i)).toArray).toList,v.oneCell'=true:=by
 intro v hv
 simp only[List.toList_toArray,List.mem_map]at hv
 obtain⟨i,_,rfl⟩:=hv
 rfl
def bw(n:Nat)(k:IntKind)(f:Nat→Int):Array Value:=((List.range n).map fun i=>Value.int k (f i)).toArray
def yC(f:Nat→Int)(i:Nat)(v:Int):Nat→Int:=fun j=>if j=i then v else f j
theorem cG(n:Nat)(k:IntKind)(f:Nat→Int):(bw n k f).size=n:=by simp[bw]
theorem rr{n:Nat}{k:IntKind}{f:Nat→Int}{i:Nat}(h:i<n):(bw n k f)[i]?=some (.int k (f i)):=by simp[bw,h]
theorem Mb{n:Nat}{k:IntKind}{f:Nat→Int}{i:Nat}(h:i<n)(v:Int):(bw n k f).setIfInBounds i (.int k v)=bw n k (yC f i v):=by
 apply Array.ext_getElem?
 intro j
 rw[Array.getElem?_setIfInBounds]
 by_cases hj:j<n
 · rw[rr hj,rr hj,cG]
   by_cases e:i=j
   · subst e;simp[yC,h]
   · have e':¬j=i:=fun x=>e x.symm
     simp[yC,e,e']
 · have h1:(bw n k f)[j]?=none:=Array.getElem?_eq_none (by rw[cG];omega)
   have h2:(bw n k (yC f i v))[j]?=none:=Array.getElem?_eq_none (by rw[cG];omega)
   rw[h1,h2,if_neg (by omega)]
theorem xw{n:Nat}{k:IntKind}{f g:Nat→Int}(h:∀i,i<n→f i=g i):bw n k f=bw n k g:=by
 unfold bw
 congr 1
 refine List.map_congr_left fun i hi=> ?_
 rw[h i (by simpa using hi)]
theorem aF{w:World}{g n:Nat}{k:IntKind}{f:Nat→Int}{T:TypeId}(hg:w.heap[g]?=some (.cells (bw n k f) T (0,0))){i:Nat}(h:i<n):w.cell? ⟨g,i,none⟩=some (.int k (f i)):=by
 rw[cell_of_row _ _ _ _ _ _ hg,rr h]
theorem oZ{w:World}{g n:Nat}{k:IntKind}{f:Nat→Int}{T:TypeId}(hg:w.heap[g]?=some (.cells (bw n k f) T (0,0))){i:Nat}(h:i<n)(v:Int):(w.setCell ⟨g,i,none⟩ (.int k v)).heap[g]?=some (.cells (bw n k (yC f i v)) T (0,0)):=by
 rw[an w hg,Mb h]
theorem bl{w:World}{g:Nat}{cs:Array Value}{T:TypeId}(hg:w.heap[g]?=some (.cells cs T (0,0)))(i:Nat):w.frozen? ⟨g,i,none⟩=false:=by simp[World.frozen?,hg]
def Nv(b0 b1 b2 b3:Int):Int:=bits .or .u32 (bits .or .u32 (bits .or .u32 (b0%4294967296*16777216%4294967296) (b1%4294967296*65536%4294967296)) (b2%4294967296*256%4294967296)) (b3%4294967296)
def word:Int→Int→Int→Int→Int:=shut Nv
end Dg
theorem Ll(w:World)(g o n c:Nat)(b0 b1 b2 b3:Int)(hn:4≤n)(h0:w.cell? ⟨g,o,none⟩=some (.int .u8 b0))(h1:w.cell? ⟨g,o+1,none⟩=some (.int .u8 b1))(h2:w.cell? ⟨g,o+2,none⟩=some (.int .u8 b2))(h3:w.cell? ⟨g,o+3,none⟩=some (.int .u8 b3)):
 Calls Tryz.prog 194 #[.slice (some ⟨g,o,none⟩) n c] w fun e w'=>e=.returned (.int .u32 (Dg.word b0 b1 b2 b3))∧∃k,w'=w.drewN k:=by
 have HE:Hid (Dg.word b0 b1 b2 b3=Dg.Nv b0 b1 b2 b3):=by
  have:Dg.word b0 b1 b2 b3=Dg.Nv b0 b1 b2 b3:=by unfold Dg.word;rw[Dg.ja]
  exact this
 go_enter Tryz.func194,Tryz.ntmps194
 go_upto_region 1 with fail
 go_quiet (fail)
 go_wp2_with fail
 go_ret
 exact⟨by rw[HE.out];rfl,_,rfl⟩
end
/- Package digest: behind. -/
section
open Go.RowKit
namespace Dg
def uw(w:World)(K:Nat→Int):Prop:=∀i,i<64→w.cell? ⟨0,i,none⟩=some (.int .u32 (K i))
theorem uw.below{w w':World}{K:Nat→Int}(h:uw w K)(hb:Below w.heap.size w w'):uw w' K:=fun i hi=>by
 rw[hb.cell (block_lt_of_cell (h i hi))]
 exact h i hi
def vp(K s ws:Nat→Int):Nat→Nat→Int
 | 0=>s
 | n+1=>Fh (vp K s ws n) ((ws n+K n)%4294967296)
def im(K s ws:Nat→Int)(k:Nat):Nat→Int:=fun j=>if j<k then (s j+vp K s ws 64 j)%4294967296 else s j
def behind:(Nat→Int)→(Nat→Int)→(Nat→Int)→Nat→Int:=shut fun K s ws=>im K s ws 8
end Dg
theorem A4{n:Nat}{f:Nat→Int}{T:TypeId}(hu:Tryz.prog.underlying T=some (.array n 228))(W:World){i:Nat}(hi:i<n):(Instr.index T (.agg (Dg.bw n .u32 f)) (.int .i64 i)).run Tryz.prog W=.ok (.int .u32 (f i)) W:=by
 have h1:=run_underlying hu W
 have h2:=Tryz.sizeOf228 W
 have h3:=Tryz.isAgg228 W
 have hg:=Dg.rr (k:=.u32) (f:=f) hi
 simp[Instr.index,asIntOf,h1,h2,part,h3,hi,hg]
theorem Uz(w:World)(o0 o1 o2 o3:Obj):Below w.heap.size w ((((w.alloc o0).alloc o1).alloc o2).alloc o3)∧((((w.alloc o0).alloc o1).alloc o2).alloc o3).heap.size=w.heap.size+4∧
 ((((w.alloc o0).alloc o1).alloc o2).alloc o3).heap[w.heap.size]?=some o0∧((((w.alloc o0).alloc o1).alloc o2).alloc o3).heap[w.heap.size+1]?=some o1∧((((w.alloc o0).alloc o1).alloc o2).alloc o3).heap[w.heap.size+1+1]?=some o2∧((((w.alloc o0).alloc o1).alloc o2).alloc o3).heap[w.heap.size+1+1+1]?=some o3:=by
 refine⟨((((Below.refl _ _).alloc (Nat.le_refl _) _).alloc (by simp) _).alloc (by simp only[World.size_alloc];omega) _).alloc (by simp only[World.size_alloc];omega) _,by simp, ?_, ?_, ?_, ?_⟩
 · rw[Below.heap_alloc _ _ _ (by simp only[World.size_alloc];omega),Below.heap_alloc _ _ _ (by simp only[World.size_alloc];omega),Below.heap_alloc _ _ _ (by simp)]
   exact heap_alloc_new w _
 · rw[Below.heap_alloc _ _ _ (by simp only[World.size_alloc];omega),Below.heap_alloc _ _ _ (by simp only[World.size_alloc];omega)]
   exact qv w _ _
 · rw[Below.heap_alloc _ _ _ (by simp)]
   have:=qv (w.alloc o0) o1 o2
   simpa using this
 · have:=qv ((w.alloc o0).alloc o1) o2 o3
   simpa using this
theorem F8(K s ws:Nat→Int)(w:World)(hK:Dg.uw w K):Calls Tryz.prog 119 #[.agg (Dg.zu s),.agg (Dg.bw 64 .u32 ws)] w fun e w'=>e=.returned (.agg (Dg.zu (Dg.behind K s ws)))∧Below w.heap.size w w':=by
 have HE:Hid (Dg.behind K s ws=Dg.im K s ws 8):=by
  have:Dg.behind K s ws=Dg.im K s ws 8:=by unfold Dg.behind;rw[Dg.ja]
  exact this
 have HK:Hid (Dg.uw w K):=hK
 have hix:∀(W:World) (i:Nat),i<64→(Instr.index 234 (.agg (Dg.bw 64 .u32 ws)) (.int .i64 i)).run Tryz.prog W=.ok (.int .u32 (ws i)) W:=by
  intro W i hi
  exact A4 Tryz.underlying234 W hi
 have e8:Dg.zu s=#[.int .u32 (s 0),.int .u32 (s 1),.int .u32 (s 2),.int .u32 (s 3),.int .u32 (s 4),.int .u32 (s 5),.int .u32 (s 6),.int .u32 (s 7)]:=rfl
 rw[e8]
 clear e8 hK
 go_enter Tryz.func119,Tryz.ntmps119
 go_upto_region 2 with fail
 obtain⟨jb,js,j0,j1,j2,j3⟩:=Uz w (.cells #[.int .u32 (s 0),.int .u32 (s 1),.int .u32 (s 2),.int .u32 (s 3),.int .u32 (s 4),.int .u32 (s 5),.int .u32 (s 6),.int .u32 (s 7)] 230) (.cells (Dg.bw 64 .u32 ws) 234) (.cells #[.int .u32 0,.int .u32 0,.int .u32 0,.int .u32 0,.int .u32 0,.int .u32 0,.int .u32 0,.int .u32 0] 230) (.cells #[.int .u32 (s 0),.int .u32 (s 1),.int .u32 (s 2),.int .u32 (s 3),.int .u32 (s 4),.int .u32 (s 5),.int .u32 (s 6),.int .u32 (s 7)] 230)
 generalize (((w.alloc (.cells #[.int .u32 (s 0),.int .u32 (s 1),.int .u32 (s 2),.int .u32 (s 3),.int .u32 (s 4),.int .u32 (s 5),.int .u32 (s 6),.int .u32 (s 7)] 230)).alloc (.cells (Dg.bw 64 .u32 ws) 234)).alloc (.cells #[.int .u32 0,.int .u32 0,.int .u32 0,.int .u32 0,.int .u32 0,.int .u32 0,.int .u32 0,.int .u32 0] 230)).alloc (.cells #[.int .u32 (s 0),.int .u32 (s 1),.int .u32 (s 2),.int .u32 (s 3),.int .u32 (s 4),.int .u32 (s 5),.int .u32 (s 6),.int .u32 (s 7)] 230)=w0 at jb js j0 j1 j2 j3 ⊢
 have J0:Hid (w0.heap[w.heap.size]?=some (.cells (Dg.bw 8 .u32 s) 230 (0,0))):=j0
 have J2:Hid (w0.heap[w.heap.size+1+1]?=some (.cells #[.int .u32 0,.int .u32 0,.int .u32 0,.int .u32 0,.int .u32 0,.int .u32 0,.int .u32 0,.int .u32 0] 230 (0,0))):=j2
 have J3:Hid (w0.heap[w.heap.size+1+1+1]?=some (.cells (Dg.bw 8 .u32 (Dg.vp K s ws 0)) 230 (0,0))):=j3
 have JB:Hid (Below w.heap.size w w0):=jb
 clear j0 j2 j3 jb
 go_wp2_with (refine wpList_load_row rfl 234 (.tmp 3) rfl (w.heap.size+1) rfl _ _ _ _ j1 Tryz.underlying234 rfl (by rw[Dg.cG];kernel_rfl) ?_)
 have TH:Hid (∀wr:World,Kb [w.heap.size+1+1+1] w0 wr→Below w.heap.size w wr):=fun wr h=>h.aK JB.out JB.out.size (by simp;omega)
 go_loopw [11] (fun i wr=>∃k:Nat,k≤64∧i=.int .i64 k∧wr.heap[w.heap.size+1+1+1]?=some (.cells (Dg.bw 8 .u32 (Dg.vp K s ws k)) 230 (0,0))∧Kb [w.heap.size+1+1+1] w0 wr) (fun i _=>64-(intOf i).toNat)
 case atStart=>exact⟨0,by omega,rfl,J3.out,Kb.refl _ _⟩
 case round=>
  obtain⟨k,hk,rfl,hv,fq⟩:=hrel
  have EX:Hid (Kb [w.heap.size+1+1+1] w0 wr):=fq
  have W0:=lt_of_heap hv
  by_cases aE:k<64
  · have fR:Hid (Dg.vp K s ws (k+1)=Dg.Fh (Dg.vp K s ws k) ((ws k+K k)%4294967296)):=(rfl:Dg.vp K s ws (k+1)=_)
    generalize Dg.vp K s ws k=v at hv fR
    have v0:wr.cell? ⟨w.heap.size+1+1+1,0,none⟩=some (.int .u32 (v 0)):=Dg.aF hv (by decide)
    have v1:wr.cell? ⟨w.heap.size+1+1+1,1,none⟩=some (.int .u32 (v 1)):=Dg.aF hv (by decide)
    have v2:wr.cell? ⟨w.heap.size+1+1+1,2,none⟩=some (.int .u32 (v 2)):=Dg.aF hv (by decide)
    have v3:wr.cell? ⟨w.heap.size+1+1+1,3,none⟩=some (.int .u32 (v 3)):=Dg.aF hv (by decide)
    have v4:wr.cell? ⟨w.heap.size+1+1+1,4,none⟩=some (.int .u32 (v 4)):=Dg.aF hv (by decide)
    have v5:wr.cell? ⟨w.heap.size+1+1+1,5,none⟩=some (.int .u32 (v 5)):=Dg.aF hv (by decide)
    have v6:wr.cell? ⟨w.heap.size+1+1+1,6,none⟩=some (.int .u32 (v 6)):=Dg.aF hv (by decide)
    have v7:wr.cell? ⟨w.heap.size+1+1+1,7,none⟩=some (.int .u32 (v 7)):=Dg.aF hv (by decide)
    have g0:wr.cell? ⟨0,k,none⟩=some (.int .u32 (K k)):=by
     have hb:=TH.out wr EX.out
     have h0:=HK.out k aE
     rw[hb.cell (block_lt_of_cell h0)]
     exact h0
    have hi:=hix wr k aE
    have M5:Hid (∀W:World,W.heap=wr.heap→Calls Tryz.prog 193 #[.agg #[.int .u32 (v 0),.int .u32 (v 1),.int .u32 (v 2),.int .u32 (v 3),.int .u32 (v 4),.int .u32 (v 5),.int .u32 (v 6),.int .u32 (v 7)],.int .u32 ((ws k+K k)%4294967296)] W fun e w2=>e=.returned (.agg #[.int .u32 (Dg.Fh v ((ws k+K k)%4294967296) 0),.int .u32 (Dg.Fh v ((ws k+K k)%4294967296) 1),.int .u32 (Dg.Fh v ((ws k+K k)%4294967296) 2),.int .u32 (Dg.Fh v ((ws k+K k)%4294967296) 3),.int .u32 (Dg.Fh v ((ws k+K k)%4294967296) 4),.int .u32 (Dg.Fh v ((ws k+K k)%4294967296) 5),.int .u32 (Dg.Fh v ((ws k+K k)%4294967296) 6),.int .u32 (Dg.Fh v ((ws k+K k)%4294967296) 7)])∧(w2.cell? ⟨w.heap.size+1+1+1,0,none⟩=some (.int .u32 (v 0))∧w2.cell? ⟨w.heap.size+1+1+1,1,none⟩=some (.int .u32 (v 1))∧w2.cell? ⟨w.heap.size+1+1+1,2,none⟩=some (.int .u32 (v 2))∧w2.cell? ⟨w.heap.size+1+1+1,3,none⟩=some (.int .u32 (v 3))∧w2.cell? ⟨w.heap.size+1+1+1,4,none⟩=some (.int .u32 (v 4))∧w2.cell? ⟨w.heap.size+1+1+1,5,none⟩=some (.int .u32 (v 5))∧w2.cell? ⟨w.heap.size+1+1+1,6,none⟩=some (.int .u32 (v 6))∧w2.cell? ⟨w.heap.size+1+1+1,7,none⟩=some (.int .u32 (v 7))∧w2.frozen? ⟨w.heap.size+1+1+1,0,none⟩=false∧w2.frozen? ⟨w.heap.size+1+1+1,1,none⟩=false∧w2.frozen? ⟨w.heap.size+1+1+1,2,none⟩=false∧w2.frozen? ⟨w.heap.size+1+1+1,3,none⟩=false∧w2.frozen? ⟨w.heap.size+1+1+1,4,none⟩=false∧w2.frozen? ⟨w.heap.size+1+1+1,5,none⟩=false∧w2.frozen? ⟨w.heap.size+1+1+1,6,none⟩=false∧w2.frozen? ⟨w.heap.size+1+1+1,7,none⟩=false)∧w.heap.size+1+1+1<w2.heap.size∧Hid (w2.heap[w.heap.size+1+1+1]?=some (.cells (Dg.bw 8 .u32 v) 230 (0,0))∧Below W.heap.size W w2)):=by
     intro W hW
     refine(I4 v ((ws k+K k)%4294967296) W).mono ?_
     rintro e w2 ⟨rfl,hb⟩
     have yW:w2.heap[w.heap.size+1+1+1]?=some (.cells (Dg.bw 8 .u32 v) 230 (0,0)):=by
      rw[hb.block _ (by rw[hW];exact W0),hW]
      exact hv
     exact⟨rfl,⟨Dg.aF yW (by decide),Dg.aF yW (by decide),Dg.aF yW (by decide),Dg.aF yW (by decide),Dg.aF yW (by decide),Dg.aF yW (by decide),Dg.aF yW (by decide),Dg.aF yW (by decide),Dg.bl yW _,Dg.bl yW _,Dg.bl yW _,Dg.bl yW _,Dg.bl yW _,Dg.bl yW _,Dg.bl yW _,Dg.bl yW _⟩,lt_of_heap yW,yW,hb⟩
    generalize Dg.Fh v ((ws k+K k)%4294967296)=v' at M5 fR
    clear hv fq
    go_upto_region 5 with fail
    go_region_with (go_at_call 193;refine(M5.out _ (by rfl)).mono ?_;rintro e w2 ⟨rfl,⟨c0,c1,c2,c3,c4,c5,c6,c7,f0,f1,f2,f3,f4,f5,f6,f7⟩,tH,CU⟩)
    all_goals
     (have yW:w2.heap[w.heap.size+1+1+1]?=some (.cells #[.int .u32 (v 0),.int .u32 (v 1),.int .u32 (v 2),.int .u32 (v 3),.int .u32 (v 4),.int .u32 (v 5),.int .u32 (v 6),.int .u32 (v 7)] 230 (0,0)):=CU.out.1
      obtain⟨q1,q2⟩:=vM yW (.int .u32 (v' 0)) (.int .u32 (v' 1)) (.int .u32 (v' 2)) (.int .u32 (v' 3)) (.int .u32 (v' 4)) (.int .u32 (v' 5)) (.int .u32 (v' 6)) (.int .u32 (v' 7))
      have HQ:Hid (Kb [w.heap.size+1+1+1] w0 w2):=(EX.out.drew).below CU.out.2
      go_wp2_with fail
      go_roundw
      case rel=>exact⟨k+1,by omega,by go_num,by rw[fR.out];exact q1,HQ.out.trans q2⟩
      case measure=>simp[intOf];omega)
  · have adm:k=64:=by omega
    subst adm
    have HS:Hid (wr.heap[w.heap.size]?=some (.cells (Dg.bw 8 .u32 (Dg.im K s ws 0)) 230 (0,0))):=by
     have h0:=EX.out.heap J0.out (by simp;omega)
     have e0:Dg.bw 8 .u32 (Dg.im K s ws 0)=Dg.bw 8 .u32 s:=Dg.xw fun i hi=>by simp[Dg.im]
     rw[e0]
     exact h0
    have HV:Hid (wr.heap[w.heap.size+1+1+1]?=some (.cells (Dg.bw 8 .u32 (Dg.vp K s ws 64)) 230 (0,0))):=hv
    have HZ:Hid (wr.heap[w.heap.size+1+1]?=some (.cells #[.int .u32 0,.int .u32 0,.int .u32 0,.int .u32 0,.int .u32 0,.int .u32 0,.int .u32 0,.int .u32 0] 230 (0,0))):=EX.out.heap J2.out (by simp only[List.mem_singleton];omega)
    clear hv fq
    obtain⟨wA,rfl⟩:∃x,x=wr:=⟨_,rfl⟩
    have PR:=lt_of_heap HV.out
    go_wp2_with fail
    go_loopw [23] (fun i wr=>∃k:Nat,k≤8∧i=.int .i64 k∧wr.heap[w.heap.size]?=some (.cells (Dg.bw 8 .u32 (Dg.im K s ws k)) 230 (0,0))∧Kb [w.heap.size] wA wr) (fun i _=>8-(intOf i).toNat)
    case atStart=>exact⟨0,by omega,rfl,HS.out,Kb.refl _ _⟩
    case round=>
     obtain⟨k,hk,rfl,hs,fq⟩:=hrel
     have HKS:Hid (Kb [w.heap.size] wA wr):=fq
     have hv:wr.heap[w.heap.size+1+1+1]?=some (.cells (Dg.bw 8 .u32 (Dg.vp K s ws 64)) 230 (0,0)):=HKS.out.heap HV.out (by simp only[List.mem_singleton];omega)
     have hz:wr.heap[w.heap.size+1+1]?=some (.cells #[.int .u32 0,.int .u32 0,.int .u32 0,.int .u32 0,.int .u32 0,.int .u32 0,.int .u32 0,.int .u32 0] 230 (0,0)):=HKS.out.heap HZ.out (by simp only[List.mem_singleton];omega)
     have NW:=lt_of_heap hs
     have hl3:=lt_of_heap hv
     have tH:=lt_of_heap hz
     by_cases aE:k<8
     · have a0:=Dg.aF hs aE
       have a1:=Dg.aF hv aE
       have a2:=Dg.bl hs k
       have ev:Hid ((wr.drew.setCell ⟨w.heap.size,k,none⟩ (.int .u32 ((Dg.im K s ws k k+Dg.vp K s ws 64 k)%4294967296))).heap[w.heap.size]?=some (.cells (Dg.bw 8 .u32 (Dg.im K s ws (k+1))) 230 (0,0))∧Kb [w.heap.size] wA (wr.drew.setCell ⟨w.heap.size,k,none⟩ (.int .u32 ((Dg.im K s ws k k+Dg.vp K s ws 64 k)%4294967296)))):=by
        refine⟨?_,HKS.out.drew.trans (Kb.setCell wr.drew ⟨w.heap.size,k,none⟩ _)⟩
        rw[Dg.oZ (w:=wr.drew) hs aE]
        rw[Dg.xw (g:=Dg.im K s ws (k+1))]
        intro i hi
        unfold Dg.yC Dg.im
        by_cases e:i=k
        · subst e;simp
        · have e2:i<k+1↔i<k:=by omega
          simp[e,e2]
       clear hs hv hz fq
       go_upto_region 10 with fail
       go_region
       all_goals
        (go_wp2_with fail
         go_roundw
         case rel=>exact⟨k+1,by omega,by go_num,ev.out.1,ev.out.2⟩
         case measure=>simp[intOf];omega)
     · have hk8:k=8:=by omega
       subst hk8
       have c0:wr.cell? ⟨w.heap.size,0,none⟩=some (.int .u32 (Dg.im K s ws 8 0)):=Dg.aF hs (by decide)
       have c1:wr.cell? ⟨w.heap.size,1,none⟩=some (.int .u32 (Dg.im K s ws 8 1)):=Dg.aF hs (by decide)
       have c2:wr.cell? ⟨w.heap.size,2,none⟩=some (.int .u32 (Dg.im K s ws 8 2)):=Dg.aF hs (by decide)
       have c3:wr.cell? ⟨w.heap.size,3,none⟩=some (.int .u32 (Dg.im K s ws 8 3)):=Dg.aF hs (by decide)
       have c4:wr.cell? ⟨w.heap.size,4,none⟩=some (.int .u32 (Dg.im K s ws 8 4)):=Dg.aF hs (by decide)
       have c5:wr.cell? ⟨w.heap.size,5,none⟩=some (.int .u32 (Dg.im K s ws 8 5)):=Dg.aF hs (by decide)
       have c6:wr.cell? ⟨w.heap.size,6,none⟩=some (.int .u32 (Dg.im K s ws 8 6)):=Dg.aF hs (by decide)
       have c7:wr.cell? ⟨w.heap.size,7,none⟩=some (.int .u32 (Dg.im K s ws 8 7)):=Dg.aF hs (by decide)
       have z0:wr.cell? ⟨w.heap.size+1+1,0,none⟩=some (.int .u32 0):=by rw[cell_of_row _ _ _ _ _ _ hz];rfl
       have z1:wr.cell? ⟨w.heap.size+1+1,1,none⟩=some (.int .u32 0):=by rw[cell_of_row _ _ _ _ _ _ hz];rfl
       have z2:wr.cell? ⟨w.heap.size+1+1,2,none⟩=some (.int .u32 0):=by rw[cell_of_row _ _ _ _ _ _ hz];rfl
       have z3:wr.cell? ⟨w.heap.size+1+1,3,none⟩=some (.int .u32 0):=by rw[cell_of_row _ _ _ _ _ _ hz];rfl
       have z4:wr.cell? ⟨w.heap.size+1+1,4,none⟩=some (.int .u32 0):=by rw[cell_of_row _ _ _ _ _ _ hz];rfl
       have z5:wr.cell? ⟨w.heap.size+1+1,5,none⟩=some (.int .u32 0):=by rw[cell_of_row _ _ _ _ _ _ hz];rfl
       have z6:wr.cell? ⟨w.heap.size+1+1,6,none⟩=some (.int .u32 0):=by rw[cell_of_row _ _ _ _ _ _ hz];rfl
       have z7:wr.cell? ⟨w.heap.size+1+1,7,none⟩=some (.int .u32 0):=by rw[cell_of_row _ _ _ _ _ _ hz];rfl
       have f0:wr.frozen? ⟨w.heap.size+1+1,0,none⟩=false:=Dg.bl hz 0
       have f1:wr.frozen? ⟨w.heap.size+1+1,1,none⟩=false:=Dg.bl hz 1
       have f2:wr.frozen? ⟨w.heap.size+1+1,2,none⟩=false:=Dg.bl hz 2
       have f3:wr.frozen? ⟨w.heap.size+1+1,3,none⟩=false:=Dg.bl hz 3
       have f4:wr.frozen? ⟨w.heap.size+1+1,4,none⟩=false:=Dg.bl hz 4
       have f5:wr.frozen? ⟨w.heap.size+1+1,5,none⟩=false:=Dg.bl hz 5
       have f6:wr.frozen? ⟨w.heap.size+1+1,6,none⟩=false:=Dg.bl hz 6
       have f7:wr.frozen? ⟨w.heap.size+1+1,7,none⟩=false:=Dg.bl hz 7
       obtain⟨q1,q2⟩:=vM hz (.int .u32 (Dg.im K s ws 8 0)) (.int .u32 (Dg.im K s ws 8 1)) (.int .u32 (Dg.im K s ws 8 2)) (.int .u32 (Dg.im K s ws 8 3)) (.int .u32 (Dg.im K s ws 8 4)) (.int .u32 (Dg.im K s ws 8 5)) (.int .u32 (Dg.im K s ws 8 6)) (.int .u32 (Dg.im K s ws 8 7))
       have dU:Below w.heap.size w wr:=HKS.out.aK (TH.out wA EX.out) (by omega) (by simp)
       have HQ1:Hid _:=q1
       have HQ2:Hid _:=q2.aK dU dU.size (by simp;omega)
       generalize Dg.im K s ws 8=f at c0 c1 c2 c3 c4 c5 c6 c7 HQ1 HQ2 HE
       clear hs hv hz fq q1 q2 dU
       go_wp2_with fail
       refine bodyPost_ret (v:=.agg (Dg.zu f)) ?_ rfl ⟨by rw[HE.out],HQ2.out⟩
       exact results_cell_row rfl _ _ _ _ _ _ _ rfl HQ1.out Tryz.underlying230 rfl (by kernel_rfl)
end
end Go.Proofs.YtdmicblafmhflaaGreatDoor
