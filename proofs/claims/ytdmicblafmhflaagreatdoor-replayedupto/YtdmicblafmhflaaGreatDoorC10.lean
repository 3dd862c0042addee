/- axiomkeep: what text writes, as tokens. No program here. -/
import Derived.Test.YtdmicblafmhflaaGreatDoorC09
import Derived.Deep.AppendLies
import Derived.Test.YtdmicblafmhflaaGreatDoorC03
set_option linter.unusedSimpArgs false
set_option linter.unusedVariables false
set_option maxHeartbeats 4000000
set_option maxRecDepth 100000
namespace Go.Proofs.YtdmicblafmhflaaGreatDoor
section
def uQ(p:Nat)(ts:List Nat):ByteArray:=lp ts 0 (Ax.cu p++⟨#[40]⟩)++⟨#[41]⟩
def wA(b:Ax.dV):ByteArray:=uQ (Ax.bk b.pred 3) (Ax.bW b)
def kx:List Ax.dV→Nat→ByteArray→ByteArray
 | [],_,s=>s
 | b::l,k,s=>kx l (k+1) ((if k=0 then s++⟨#[58,45]⟩else s++⟨#[44]⟩)++wA b)
def Az(r:Ax.ay)(s:ByteArray):ByteArray:=kx (Ax.jS r) 0 (s++uQ (Ax.bk r.head.pred 3) (Ax.eH r))++⟨#[46]⟩
def kk:List Ax.ay→ByteArray→ByteArray
 | [],s=>s
 | r::l,s=>kk l (Az r s)
theorem Ac(a:Ax.dV):Ax.bW a≠[]:=by unfold Ax.bW;split<;>simp
theorem O4(r:Ax.ay):Ax.eH r≠[]:=by
 unfold Ax.eH
 intro h
 exact Ac r.head (List.map_eq_nil_iff.1 h)
theorem D4(b:Ax.dV):(wA b).data.toList=dw (Ax.dv (Ax.jH (Ax.bk b.pred 3) (Ax.bW b))):=pM _ _ (Ac b)
def TR(b:Ax.dV):Ax.EA:=Ax.jH (Ax.bk b.pred 3) (Ax.bW b)
theorem DO:∀(l:List Ax.dV) (k:Nat) (s:ByteArray),0<k→(kx l k s).data.toList=s.data.toList++l.flatMap fun b=>44::dw (Ax.dv (TR b))
 | [],_,s,_=>by simp[kx]
 | b::l,k,s,h=>by
  rw[kx,DO l (k+1) _ (by omega),if_neg (by omega)]
  simp only[ByteArray.data_append,Array.toList_append,D4]
  simp[TR]
theorem sm:∀(l:List Ax.dV) (b:Ax.dV),dw (Ax.dy ((b::l).map TR))=dw (Ax.dv (TR b))++l.flatMap fun b=>44::dw (Ax.dv (TR b))
 | [],b=>by simp[Ax.dy]
 | c::l,b=>by
  have ih:=sm l c
  rw[List.map_cons]at ih
  rw[List.map_cons,List.map_cons,Ax.dy,fW,gI,ih]
  simp[Ax.lI]
theorem DX(r:Ax.ay)(s:ByteArray):(Az r s).data.toList=s.data.toList++dw (Ax.eZ (Ax.J6 r)):=by
 have hb:(Ax.J6 r).2=(Ax.jS r).map TR:=rfl
 have hh:(Ax.J6 r).1=Ax.jH (Ax.bk r.head.pred 3) (Ax.eH r):=rfl
 have hw:(uQ (Ax.bk r.head.pred 3) (Ax.eH r)).data.toList=dw (Ax.dv (Ax.J6 r).1):=by rw[hh];exact pM _ _ (O4 r)
 unfold Az Ax.eZ
 rw[hb]
 cases Ax.jS r with
 | nil=>simp[kx,ByteArray.data_append,hw,fW,dw]
 | cons b l=>
  rw[kx,if_pos rfl,ByteArray.data_append,Array.toList_append,DO l 1 _ (by omega)]
  simp only[ByteArray.data_append,Array.toList_append,hw,D4]
  rw[if_neg (by simp),fW,fW,gI,sm]
  simp[dw,TR]
theorem rS:∀(l:List Ax.ay) (s:ByteArray),(kk l s).data.toList=s.data.toList++dw (Ax.bp (l.map Ax.J6))
 | [],s=>by simp[kk,Ax.bp,dw]
 | r::l,s=>by
  rw[kk,rS l,DX,List.map_cons]
  simp[Ax.bp,dw]
def yA:ByteArray:=⟨(dw (Ax.bp Ax.ls)).toArray⟩
theorem OX:yA=⟨#[110,40,88,41,58,45,110,40,88,41,44,101,40,88,44,88,41,46,110,40,88,41,58,45,110,40,88,41,44,112,195,188,40,88,44,88,41,46]⟩:=by rfl
theorem Gt(l:List Ax.ay):kk (l.take 6) yA=Ax.au l:=by
 have h:=rS (l.take 6) yA
 have e:(kk (l.take 6) yA).data.toList=(Ax.au l).data.toList:=by
  rw[h]
  simp[yA,Ax.au,Ax.gR,Ax.bp,dw]
 cases h1:kk (l.take 6) yA with | mk x=>
 cases h2:Ax.au l with | mk y=>
 rw[h1,h2]at e
 simp at e
 rw[e]
end
/- axiomkeep: head. -/
section
open Go.RowKit
theorem Tryz.EB:(Tryz.prog.info? 3).map (fun i=>(i.zero,i.size,i.bytes))=some (some (.int .i64 0),1,8):=by kernel_rfl
structure tC(w:World)(g o:Nat)(a:Ax.dV):Prop where
 c0:w.cell? ⟨g,o,none⟩=some (.int .i64 a.pred)
 c1:w.cell? ⟨g,o+1,none⟩=some (.int .i64 a.a)
 c2:w.cell? ⟨g,o+2,none⟩=some (.int .i64 a.b)
 f0:cr a.pred
 f1:cr a.a
 f2:cr a.b
structure gV(w:World)(ad:Option Addr)(n c:Nat)(l:List Ax.dV):Prop where
 len:l.length=n
 cap:n≤c
 max:c≤maxLen
 none_:ad=none→n=0
 at_:∀k (h:k<l.length),∃g o,ad=some ⟨g,o,none⟩∧tC w g (o+k*3) l[k]
theorem bz{w w':World}(hb:Below w.heap.size w w'){p:Addr}{v:Value}(h:w.cell? p=some v):w'.cell? p=some v:=by
 rw[hb.cell (World.block_lt_of_cell? _ _ h),h]
theorem tC.below{w w':World}{g o:Nat}{a:Ax.dV}(h:tC w g o a)(hb:Below w.heap.size w w'):tC w' g o a:=
 ⟨bz hb h.c0,bz hb h.c1,bz hb h.c2,h.f0,h.f1,h.f2⟩
theorem gV.below{w w':World}{ad:Option Addr}{n c:Nat}{l:List Ax.dV}(h:gV w ad n c l)(hb:Below w.heap.size w w'):gV w' ad n c l:=
 ⟨h.len,h.cap,h.max,h.none_,fun k hk=>let ⟨g,o,e,ha⟩:=h.at_ k hk;⟨g,o,e,ha.below hb⟩⟩
theorem gV.two{w:World}{ad:Option Addr}{n c:Nat}{r:Ax.ay}(h:gV w ad n c r.body):gV w ad (min n 2) c (Ax.jS r):=by
 refine⟨?_, ?_,h.max, ?_, ?_⟩
 · unfold Ax.jS;rw[List.length_take,h.len];omega
 · have:=h.cap;omega
 · intro e;have:=h.none_ e;omega
 · intro k hk
   unfold Ax.jS at hk ⊢
   rw[List.length_take]at hk
   obtain⟨g,o,e,ha⟩:=h.at_ k (by omega)
   exact⟨g,o,e,by rw[List.getElem_take];exact ha⟩
theorem Db{w:World}{ad:Option Addr}{n c:Nat}{l:List Ax.dV}(h:gV w ad n c l)(p a b:Int):∀w1,Calls Tryz.prog 63 #[.agg #[.int .i64 p,.int .i64 a,.int .i64 b,.slice ad n c]] w1 fun e w'=>e=.returned (.slice ad (min n 2) c)∧Below w1.heap.size w1 w':=by
 intro w1
 cases ad with
 | none=>
  have hn:=h.none_ rfl
  subst hn
  exact Jg w1 p a b c
 | some ad=>exact MJ w1 p a b ad n c h.cap h.max
def fv(L:List Nat)(h:Nat):Nat:=if h<3∧¬h∈L then h+3 else h
def hx(T L:List Nat)(i:Nat):List Nat:=(T.take i).map (fv L)++T.drop i
theorem KT(T L:List Nat)(i:Nat):(hx T L i).length=T.length:=by simp[hx];omega
theorem P0(T L:List Nat):hx T L 0=T:=by simp[hx]
theorem Uo(T L:List Nat):hx T L T.length=T.map (fv L):=by simp[hx]
theorem VM{T:List Nat}(L:List Nat){i:Nat}(h:i<T.length):(aA (hx T L i))[i]?=some (.int .i64 T[i]):=by
 have e:(hx T L i)[i]?=some T[i]:=by
  unfold hx
  rw[List.getElem?_append_right (by simp;omega)]
  simp[Nat.min_eq_left (Nat.le_of_lt h)]
 simp[aA,e]
theorem Hr{T:List Nat}(L:List Nat){i:Nat}(h:i<T.length):(hx T L i).set i (fv L T[i])=hx T L (i+1):=by
 unfold hx
 rw[List.drop_eq_getElem_cons h,List.take_succ_eq_append_getElem h]
 have hl:((T.take i).map (fv L)).length=i:=by simp;omega
 rw[List.set_append_right _ _ (by omega),hl,Nat.sub_self,List.set_cons_zero,List.map_append,List.map_cons,List.map_nil,List.append_assoc]
 rfl
theorem P7{T:List Nat}(L:List Nat){i:Nat}(h:i<T.length)(e:fv L T[i]=T[i]):hx T L (i+1)=hx T L i:=by
 rw[←Hr L h,e]
 have e1:(hx T L i)[i]?=some T[i]:=by
  unfold hx
  rw[List.getElem?_append_right (by simp;omega)]
  simp[Nat.min_eq_left (Nat.le_of_lt h)]
 apply List.ext_getElem?
 intro k
 by_cases hk:i=k
 · subst hk
   rw[List.getElem?_set_self (by rw[KT];exact h),e1]
 · rw[List.getElem?_set_ne hk]
theorem BG(l:List Nat)(i x:Nat):(aA l).set i (.int .i64 (x:Int))=aA (l.set i x):=by
 simp[aA,List.map_set]
theorem BA{w:World}{b:Nat}{e:TypeId}{size g n cap:Nat}{xs:List Value}(h:w.ownsRow b e size (.slice (some ⟨g,0,none⟩) n cap) n xs)(j:Nat)(v:Value):
 (w.setCell ⟨g,j,none⟩ v).ownsRow b e size (.slice (some ⟨g,0,none⟩) n cap) n (xs.set j v):=by
 refine⟨by rw[List.length_set];exact h.1, ?_⟩
 rcases h.2 with⟨e1,_⟩ | ⟨g',FN,cur,hv,hg,hh,h1,h2,h3,h4⟩
 · simp at e1
 · simp only[Value.slice.injEq,Option.some.injEq,Addr.mk.injEq]at hv
   obtain⟨⟨rfl,_⟩,_,rfl⟩:=hv
   refine .inr ⟨g,cap,cur.setIfInBounds j v,rfl,hg,heap_setCell_same hh v,h1,h2,by simpa using h3, ?_⟩
   rw[Array.toList_setIfInBounds,List.take_set,h4]
theorem VR{w:World}{b g n cap:Nat}{T L:List Nat}{i:Nat}(hi:i<T.length){x:Nat}(Lp:fv L T[i]=x)(h:w.ownsRow b 3 1 (.slice (some ⟨g,0,none⟩) n cap) n (aA (hx T L i))):
 (w.setCell ⟨g,i,none⟩ (.int .i64 (x:Int))).ownsRow b 3 1 (.slice (some ⟨g,0,none⟩) n cap) n (aA (hx T L (i+1))):=by
 have:=BA h i (.int .i64 (x:Int))
 rw[BG,←Lp,Hr L hi]at this
 rw[←Lp]
 exact this
theorem ve(l m:List Nat):aA l++aA m=aA (l++m):=by simp[aA]
theorem vz(l:List Nat):(aA l).length=l.length:=by simp[aA]
theorem yK(l:List Nat):∀u,u∈aA l→u.oneCell'=true:=by
 intro u hu
 obtain⟨n,_,rfl⟩:=List.mem_map.1 hu
 rfl
theorem Kc(gb:List Ax.dV){i:Nat}(h:i<gb.length):(gb.take (i+1)).flatMap Ax.bW=(gb.take i).flatMap Ax.bW++Ax.bW gb[i]:=by
 rw[List.take_succ_eq_append_getElem h,List.flatMap_append,List.flatMap_cons,List.flatMap_nil,List.append_nil]
theorem kL(a:Ax.dV):0<(Ax.bW a).length∧(Ax.bW a).length≤2:=by
 unfold Ax.bW
 split<;>simp
end
/- axiomkeep: head, walked. -/
section
open Go.RowKit
theorem tN{w w1:World}{o:Obj}(hb:Below (w.alloc o).heap.size (w.alloc o) w1):w1.heap[w.heap.size]?=some o∧Below w.heap.size w w1∧w.heap.size+1≤w1.heap.size:=by
 have hs:=hb.size
 simp only[World.size_alloc]at hs
 exact⟨(hb.block _ (by simp)).trans (heap_alloc_new _ _),((Below.refl _ _).alloc (Nat.le_refl _) _).trans (hb.mono (by simp)),by omega⟩
theorem Kp{w wr w1:World}{o:Obj}(r:wr.heap[w.heap.size]?=some o)(hb:Below w.heap.size w wr)(h1:Below wr.heap.size wr w1):w1.heap[w.heap.size]?=some o∧Below w.heap.size w w1:=
 ⟨(h1.block _ (lt_of_heap r)).trans r,hb.trans (h1.mono hb.size)⟩
theorem KW{w w1 w2:World}{o:Obj}{row:Option Nat}(r:w1.heap[w.heap.size]?=some o)(hb:Below w.heap.size w w1)(hg:w1.grownBy w2 row)(hr:∀k,row=some k→w.heap.size+1≤k):w2.heap[w.heap.size]?=some o∧Below w.heap.size w w2:=by
 refine⟨?_,hb.grown hg hb.size (fun k hk=>by have:=hr k hk;omega)⟩
 rw[hg.block _ (lt_of_heap r) (fun e=>by have:=hr _ e.symm;omega)]
 exact r
theorem Oy(w:World)(r:Ax.ay)(ad:Option Addr)(n c:Nat)(hB:gV w ad n c r.body)(h0:cr r.head.pred)(h1:cr r.head.a)(h2:cr r.head.b):
 Calls Tryz.prog 62 #[.agg #[.int .i64 r.head.pred,.int .i64 r.head.a,.int .i64 r.head.b,.slice ad n c]] w fun e w'=>∃d c',e=.returned (.slice d (Ax.eH r).length c')∧w'.ownsRow w.heap.size 3 1 (.slice d (Ax.eH r).length c') (Ax.eH r).length (aA (Ax.eH r))∧Below w.heap.size w w':=by
 have pT:=Db hB r.head.pred r.head.a r.head.b
 have LL:=hB.two
 have Ci:c≤9223372036854775807:=hB.max
 obtain⟨m,hm⟩:∃m,min n 2=m:=⟨_,rfl⟩
 have YB:m≤2:=by omega
 rw[hm]at pT LL
 clear hm hB
 have We:=fun w=>qu w r.head h0 h1 h2
 have hgh:Ax.eH r=(Ax.bW r.head).map (fv ((Ax.jS r).flatMap Ax.bW)):=rfl
 have hT2:=kL r.head
 rw[hgh]
 clear hgh
 generalize Ax.jS r=gb at*
 generalize Ax.bW r.head=T at*
 rcases r with⟨⟨p,a,b⟩,bd⟩
 simp only at*
 clear h0 h1 h2 bd
 obtain⟨R,hR⟩:∃R,gb.flatMap Ax.bW=R:=⟨_,rfl⟩
 rw[hR]
 have HR:Hid (gb.flatMap Ax.bW=R):=hR
 clear hR
 rw[List.length_map]
 obtain⟨i0,hi,ew,dZ,dX⟩:=info_parts Tryz.EB
 have HI:Hid (Tryz.prog.info? 3=some i0):=hi
 have HZ0:Hid (i0.zero=some (.int .i64 0)):=ew
 have Zf:Hid (i0.size=1):=dZ
 have Q8:Hid (i0.bytes=8):=dX
 clear hi ew dZ dX
 go_enter Tryz.func62,Tryz.ntmps62
 go_wp2_with (go_at_call 63;refine(pT _).mono ?_;rintro e w1 ⟨rfl,a8⟩)
 obtain⟨r1,bw1,sz1⟩:=tN a8
 clear a8
 go_loopw [3,5] (fun lv iv wr=>∃(i:Nat) (ld:Option Addr) (lc:Nat) (L:List Nat),i≤m∧lv=.slice ld L.length lc∧iv=.int .i64 i∧L.length≤2*i∧(gb.take i).flatMap Ax.bW=L∧wr.heap[w.heap.size]?=some (.cells #[.int .i64 p,.int .i64 a,.int .i64 b,.slice ad n c] 94 (0,0))∧Below w.heap.size w wr∧w.heap.size+1≤wr.heap.size∧wr.ownsRow (w.heap.size+1) 3 1 (.slice ld L.length lc) L.length (aA L)) (fun _ iv _=>m-(intOf iv).toNat)
 case atStart=>exact⟨0,none,0,[],Nat.zero_le _,rfl,rfl,Nat.zero_le _,rfl,r1,bw1,sz1,⟨by simp[aA],.inl ⟨rfl,rfl⟩⟩⟩
 case round=>
  obtain⟨i,ld,lc,L,hi,rfl,rfl,hL2,hL,BD,aU,cE,al⟩:=hrel
  have HL:Hid ((gb.take i).flatMap Ax.bW=L):=hL
  clear hL r1 bw1 sz1
  have hbs:=aU.size
  by_cases aE:i<m
  · have hlen:=LL.len
    obtain⟨g,o,PD,ha⟩:=LL.at_ i (by omega)
    subst PD
    have ha:=ha.below aU
    have HN:Hid ((gb.take (i+1)).flatMap Ax.bW=L++Ax.bW gb[i]):=by
     show _=_
     rw[Kc gb (by omega),HL.out]
    generalize gb[i]=x at*
    obtain⟨e0,e1,e2,f0,f1,f2⟩:=ha
    have VC:=fun w=>qu w x f0 f1 f2
    obtain⟨p8,LP⟩:=kL x
    generalize Ax.bW x=X at*
    rcases x with⟨xp,xa,xb⟩
    simp only at e0 e1 e2 VC
    clear f0 f1 f2 LL pT We hlen
    go_wp2_with (first | (go_at_call 64;refine(VC _).mono ?_;rintro e w2 ⟨d2,c2,rfl,aR,cM⟩;obtain⟨g2,rfl,dM,uI,GL⟩:=aD aR p8;have Tn:=ae al cM;have abL:=cM.size) | (at_builtin;refine wpList_append_lies _ rfl (.tmp 23) (.tmp 24) 31 rfl (w.heap.size+1) 3 i0 _ 1 8 Tryz.underlying31 HI.out HZ0.out Zf.out Q8.out rfl (by decide) _ _ _ rfl Tn ⟨g2,0,none⟩ X.length c2 (aA X) rfl (by rw[vz,Nat.mul_one]) (fun j u hu=>by rw[Addr.add_lit,Nat.zero_add];exact GL j u hu) (yK X) p8 (by unfold maxLen;omega) (by omega) (by omega) _ rfl ?_;intro g3 abQ w3 fB gp _ W0))
    obtain⟨r2,bw2⟩:=Kp BD aU cM
    obtain⟨r3,bw3⟩:=KW r2 bw2 gp (fun k hk=>(Tn.lt k hk).1)
    go_roundw
    case rel=>
     refine⟨i+1,some ⟨g3,0,none⟩,abQ,L++X,by omega,by rw[List.length_append],by go_num,by rw[List.length_append];omega,HN.out,r3,bw3,by have:=gp.size;omega, ?_⟩
     rw[List.length_append,←ve]
     exact fB
    case measure=>simp[intOf];omega
  · obtain⟨wA,rfl⟩:∃x,x=wr:=⟨wr,rfl⟩
    have hlen:=LL.len
    have hLR:L=R:=by rw[←HL.out,←HR.out,List.take_of_length_le (by omega)]
    subst hLR
    clear HL HR LL pT
    have k0:=ab BD 0
    have k1:=ab BD 1
    have k2:=ab BD 2
    have k3:=ab BD 3
    simp only[List.getElem?_toArray,List.getElem?_cons_zero,List.getElem?_cons_succ]at k0 k1 k2 k3
    go_wp2_with (go_at_call 64;refine(We _).mono ?_;rintro e w2 ⟨d2,c2,rfl,aR,cM⟩;obtain⟨g2,rfl,dM,uI,GL⟩:=aD aR hT2.1;have abL:=cM.size)
    clear k0 k1 k2 k3 GL We
    go_loopw [8] (fun iv wx=>∃(j:Nat),j≤T.length∧iv=.int .i64 j∧Below wA.heap.size wA wx∧wx.ownsRow wA.heap.size 3 1 (.slice (some ⟨g2,0,none⟩) T.length c2) T.length (aA (hx T L j))) (fun iv _=>T.length-(intOf iv).toNat)
    case atStart=>exact⟨0,Nat.zero_le _,rfl,cM,by rw[P0];exact aR⟩
    case round=>
     obtain⟨j,hj,rfl,nA,uh⟩:=hrel
     have ais:=nA.size
     by_cases EZ:j<T.length
     · have e0:=World.ownsRow.cells uh (g:=g2) rfl j _ (VM L EZ)
       rw[Addr.add_lit,Nat.zero_add]at e0
       have fz:=uh.frozenAt j
       have dN:=Va wr _ ld lc L (ae al nA)
       have HK:Hid (fv L T[j]=T[j]→hx T L (j+1)=hx T L j):=P7 L EZ
       have HO:Hid (∀x:Nat,fv L T[j]=x→(wr.setCell ⟨g2,j,none⟩ (.int .i64 (x:Int))).ownsRow wA.heap.size 3 1 (.slice (some ⟨g2,0,none⟩) T.length c2) T.length (aA (hx T L (j+1)))):=fun x Lp=>VR EZ Lp uh
       generalize T[j]=x at*
       have dN:=dN x
       by_cases Sx:x<3
       · have eA:decide ((x:Int)<3)=true:=by simp;omega
         by_cases hm:x∈L
         · have hd:decide (x∈L)=true:=by simpa using hm
           rw[hd]at dN
           have hf:fv L x=x:=by simp[fv,hm]
           have HE:=HK.out hf
           go_wp2_with (go_at_call 123;refine dN.mono ?_;rintro e w3 ⟨rfl,rfl⟩)
           go_roundw
           case rel=>exact⟨j+1,by omega,by go_num,nA,by rw[HE];exact uh⟩
           case measure=>simp[intOf];omega
         · have hd:decide (x∈L)=false:=by simpa using hm
           rw[hd]at dN
           have hf:fv L x=x+3:=by simp[fv,hm,Sx]
           have HE:Hid _:=HO.out _ hf
           clear HK HO
           go_wp2_with (go_at_call 123;refine dN.mono ?_;rintro e w3 ⟨rfl,rfl⟩)
           go_roundw
           case rel=>
            refine⟨j+1,by omega,by go_num,nA.setCell (p:=⟨g2,j,none⟩) (uh.lt g2 rfl).1 _, ?_⟩
            exact HE.out
           case measure=>simp[intOf];omega
       · have eA:decide ((x:Int)<3)=false:=by simp;omega
         have hf:fv L x=x:=by simp[fv,Sx]
         have HE:=HK.out hf
         generalize decide (x∈L)=B at dN
         go_wp2_with (go_at_call 123;refine dN.mono ?_;rintro e w3 ⟨rfl,rfl⟩)
         go_roundw
         case rel=>exact⟨j+1,by omega,by go_num,nA,by rw[HE];exact uh⟩
         case measure=>simp[intOf];omega
     · have hjT:j=T.length:=by omega
       subst hjT
       rw[Uo]at uh
       go_wp2_with fail
       go_ret
       exact⟨_,_,rfl,aG uh aU.size,aU.trans (nA.mono aU.size)⟩
end
/- The blanks that Plain lays between the tokens. No program here. -/
namespace Ax
def cU(c:Int):List UInt8:=[32,32,10,32].take (bk c 4)
end Ax
/- What the search finds is what axiomkeep's least works out, and as often. No program here. -/
namespace En
open Ax (cf cu gY dG gM)
def b0:bO:=⟨(0,[0]),[(0,[0]),(1,[0,0])]⟩
def b1:bO:=⟨(0,[0]),[(0,[0]),(2,[0,0])]⟩
theorem SV:ub b0 where
 head:=⟨⟨by decide,rfl⟩,by decide⟩
 body:=by
  intro b hb
  simp[b0]at hb
  rcases hb with rfl | rfl
  · exact⟨⟨by decide,rfl⟩,by decide⟩
  · exact⟨⟨by decide,rfl⟩,by decide⟩
 two:=by decide
 safe:=fun n hn _=>⟨(0,[0]),by simp[b0],hn⟩
theorem SM:ub b1 where
 head:=⟨⟨by decide,rfl⟩,by decide⟩
 body:=by
  intro b hb
  simp[b1]at hb
  rcases hb with rfl | rfl
  · exact⟨⟨by decide,rfl⟩,by decide⟩
  · exact⟨⟨by decide,rfl⟩,by decide⟩
 two:=by decide
 safe:=fun n hn _=>⟨(0,[0]),by simp[b1],hn⟩
def eR(R:List bO):List bO:=b0::b1::R
def sR(R:List bO):List (eo cl):=(eR R).map fun r=>cT (cO r)
theorem zW{R:List bO}(h:∀r,r∈R→ub r):∀r,r∈eR R→ub r:=by
 intro r hr
 rcases List.mem_cons.1 hr with rfl | hr
 · exact SV
 · rcases List.mem_cons.1 hr with rfl | hr
   · exact SM
   · exact h r hr
theorem xO(r:bO):(cT (cO r)).k=r.body.length:=by simp[cT,cO]
theorem Bv{R:List bO}(h:∀r,r∈R→ub r):∀r,r∈sR R→r.k≤2:=by
 intro r hr
 obtain⟨q,hq,rfl⟩:=List.mem_map.1 hr
 rw[xO]
 exact(zW h q hq).two
theorem QI{R:List bO}{r:bO}(hr:ub r){H:Nat→Bool}{i:Nat}(hi:i∈fo r H):i<36:=by
 obtain⟨n,hn,rfl⟩:=List.mem_map.1 hi
 unfold EW at hn
 exact oN (fun j _=>iG (iJ.1 (List.mem_filter.1 hn).1).1 j) hr.head
theorem rG:∀(R:List bO),(∀r,r∈R→ub r)→∀(H:Nat→Bool) (i:Nat),36≤i→H i=false→dj R H i=false
 | [],_,_,_,_,h=>h
 | r::R,hR,H,i,hi,h=>by
  show dj R (gX H (fo r H)) i=false
  refine rG R (fun q hq=>hR q (by simp[hq])) _ i hi ?_
  simp only[gX,h,Bool.false_or,decide_eq_false_iff_not]
  intro hc
  have:=QI (R:=R) (hR r (by simp)) hc
  omega
def ak(R:List bO)(G:Nat→Bool):Nat→Bool:=rounds R 37 G
theorem B5{R:List bO}(hR:∀r,r∈R→ub r){G:Nat→Bool}(hG:∀i,36≤i→G i=false):nr R (fun i=>ak R G i=true):=by
 intro r hr n hn hb
 have hs:=uE (rG R hR) 37 G hG (by omega)
 show rounds R 37 G _=true
 rw[←hs]
 refine rl R _ r hr _ (List.mem_map.2 ⟨n, ?_,rfl⟩)
 unfold EW
 rw[List.mem_filter,List.all_eq_true]
 exact⟨hn,hb⟩
theorem xZ{R:List bO}(hR:∀r,r∈R→ub r){G:Nat→Bool}(hG:∀i,36≤i→G i=false):nr (eR R) (fun i=>ak R G i=true):=by
 intro r hr n hn hb
 rcases List.mem_cons.1 hr with rfl | hr
 · exact hb (0,[0]) (by simp[b0])
 · rcases List.mem_cons.1 hr with rfl | hr
   · exact hb (0,[0]) (by simp[b1])
   · exact B5 hR hG r hr n hn hb
def gF(G:Nat→Bool)(f:cl):Prop:=∃i,i<36∧G i=true∧f=uF i
def XF(X:Nat→Prop)(f:cl):Prop:=∃i,i<36∧X i∧f=uF i
theorem s5{E:List bO}(hE:∀r,r∈E→ub r){X:Nat→Prop}(hX:nr E X):Bx (E.map fun r=>cT (cO r)) (XF X):=by
 intro r' Ay fs hl OO h hi
 obtain⟨r,hr,rfl⟩:=List.mem_map.1 Ay
 have dD:=hE r hr
 have abq:∀f,f∈fs→Can f:=by
  intro f hf
  obtain⟨i,hi,_,rfl⟩:=OO f hf
  exact MQ hi
 obtain⟨n,hn,e⟩:=My dD abq hi
 have TV:=(iJ.1 hn).1
 have hv:∀j,j<3→o6 n j<4:=fun j _=>iG TV j
 have hh:h=subst (o6 n) r.head:=by
  have h1:gB (cO r) fs=some h:=hi
  rw[←e,qW dD TV]at h1
  exact(Option.some.inj h1).symm
 refine⟨Gx (o6 n) r.head,oN hv dD.head, ?_,by rw[hh,sP hv dD.head]⟩
 apply hX r hr n hn
 intro b hb
 have hm:subst (o6 n) b∈fs:=by rw[←e];exact List.mem_map.2 ⟨b,hb,rfl⟩
 obtain⟨i,K7,hXi,ei⟩:=OO _ hm
 rw[←sP hv (dD.body b hb)]at ei
 rw[tP (oN hv (dD.body b hb)) K7 ei]
 exact hXi
theorem tj{R:List bO}(hR:∀r,r∈R→ub r){G:Nat→Bool}{s:dB cl}{n:Nat}(hs:Inv (sR R) (gF G) s n):∀f,f∈s.found→Can f:=by
 intro f hf
 have hX:nr (eR R) (fun i=>i<36):=fun r hr n hn _=>oN (fun j _=>iG (iJ.1 hn).1 j) (zW hR r hr).head
 obtain⟨i,hi,_,rfl⟩:=hs.least (XF fun i=>i<36) (s5 (zW hR) hX) (fun f ⟨i,hi,_,e⟩=>⟨i,hi,hi,e⟩) f hf
 exact MQ hi
theorem tK{R:List bO}(hR:∀r,r∈R→ub r){G:Nat→Bool}(hG:∀i,36≤i→G i=false){s:dB cl}(hs:Inv (sR R) (gF G) s s.found.length){i:Nat}(hi:i<36):uF i∈s.found↔ak R G i=true:=by
 constructor
 · intro hm
   obtain⟨j,hj,hX,e⟩:=hs.least (XF fun i=>ak R G i=true) (s5 (zW hR) (xZ hR hG)) (fun f ⟨i,hi,hg,e⟩=>⟨i,hi,tq 37 G i hg,e⟩) _ hm
   rw[tP hi hj e]
   exact hX
 · intro hl
   refine rR (R:=R) (X:=fun i=>i<36→uF i∈s.found) ?_ 37 G ?_ i hl hi
   · intro r hr n hn hb _
     have dD:=hR r hr
     have TV:=(iJ.1 hn).1
     have hv:∀j,j<3→o6 n j<4:=fun j _=>iG TV j
     have fU:cT (cO r)∈sR R:=List.mem_map.2 ⟨r,by simp[eR,hr],rfl⟩
     rw[sP hv dD.head]
     refine hs.done _ fU (FW r n) ?_ _ (qW dD TV)
     rw[List.take_length,ya (Bv hR _ fU),xO]
     refine⟨by simp[FW], ?_⟩
     intro f hf
     obtain⟨b,wy,rfl⟩:=List.mem_map.1 hf
     rw[←sP hv (dD.body b wy)]
     exact hb b wy (oN hv (dD.body b wy))
   · intro j hj zk
     exact hs.given _ ⟨j,zk,hj,rfl⟩
def jK(l:List Nat)(i:Nat):Nat:=l.count i
theorem wN{α:Type}{f:α→Nat}:∀(l:List α),(∀x,x∈l→f x<36)→∀{i:Nat},i<36→ib (l.map fun x=>uF (f x)) (uF i)=jK (l.map f) i
 | [],_,_,_=>rfl
 | x::l,h,i,hi=>by
  have ih:=wN l (fun y hy=>h y (by simp[hy])) hi
  rw[List.map_cons,List.map_cons,EL,ih]
  unfold jK
  rw[List.count_cons]
  by_cases e:f x=i
  · subst e;simp
  · have e2:¬uF (f x)=uF i:=fun hc=>e (tP (h x (by simp)) hi hc)
    simp[e,e2]
theorem Ro{R:List bO}(hR:∀r,r∈R→ub r){G:Nat→Bool}(hG:∀i,36≤i→G i=false){s:dB cl}(hs:Inv (sR R) (gF G) s s.found.length){r:bO}(hr:ub r):Pt r s.found=EW r (ak R G):=by
 unfold Pt EW
 apply List.filter_congr
 intro n hn
 have TV:=(iJ.1 hn).1
 have hv:∀j,j<3→o6 n j<4:=fun j _=>iG TV j
 unfold FW
 rw[List.all_map]
 apply Bool.eq_iff_iff.2
 rw[List.all_eq_true,List.all_eq_true]
 have key:∀b,b∈r.body→(hasB s.found (subst (o6 n) b)=true↔ak R G (Gx (o6 n) b)=true):=by
  intro b hb
  rw[x7,←sP hv (hr.body b hb)]
  exact tK hR hG hs (oN hv (hr.body b hb))
 constructor
 · intro h b hb
   exact(key b hb).1 (h b hb)
 · intro h b hb
   exact(key b hb).2 (h b hb)
theorem sY{R:List bO}(hR:∀r,r∈R→ub r){G:Nat→Bool}(hG:∀i,36≤i→G i=false){s:dB cl}(hs:Inv (sR R) (gF G) s s.found.length){r:bO}(hr:ub r){i:Nat}(hi:i<36):
 lu (cT (cO r)) (iA (cT (cO r)).k s.found) (uF i)=jK (fo r (ak R G)) i:=by
 rw[xO,Vf hr hs.nodup (tj hR hs),Ro hR hG hs hr]
 have e:((EW r (ak R G)).map fun n=>subst (o6 n) r.head)=(EW r (ak R G)).map fun n=>uF (Gx (o6 n) r.head):=by
  apply List.map_congr_left
  intro n hn
  unfold EW at hn
  exact(sP (fun j _=>iG (iJ.1 (List.mem_filter.1 hn).1).1 j) hr.head).symm
 rw[e]
 exact wN _ (fun n hn=>by
  unfold EW at hn
  exact oN (fun j _=>iG (iJ.1 (List.mem_filter.1 hn).1).1 j) hr.head) hi
theorem Dh{R:List bO}(hR:∀r,r∈R→ub r){G:Nat→Bool}(hG:∀i,36≤i→G i=false){s:dB cl}(hs:Inv (sR R) (gF G) s s.found.length){i:Nat}(hi:i<36):
 s.count (uF i)=jK (fo b0 (ak R G)) i+(jK (fo b1 (ak R G)) i+(R.map fun r=>jK (fo r (ak R G)) i).sum):=by
 rw[hs.counts,List.take_length]
 unfold total sR eR
 simp only[List.map_cons,List.sum_cons,List.map_map]
 rw[sY hR hG hs SV hi,sY hR hG hs SM hi]
 congr 3
 apply List.map_congr_left
 intro r hr
 exact sY hR hG hs (hR r hr) hi
theorem Yi:vs b0=[0,1,2,3]:=by decide
theorem Xe:vs b1=[0,1,2,3]:=by decide
theorem four{n:Nat}(h:n∈[0,1,2,3]):n=0∨n=1∨n=2∨n=3:=by simpa using h
theorem MU(H:Nat→Bool):fo b0 H=[0,1,2,3].filter fun x=>H x&&H (4+5*x):=by
 unfold fo EW
 rw[Yi]
 have e1:([0,1,2,3].filter fun n=>b0.body.all fun b=>H (Gx (o6 n) b))=[0,1,2,3].filter fun x=>H x&&H (4+5*x):=by
  apply List.filter_congr
  intro n hn
  rcases four hn with rfl | rfl | rfl | rfl<;>simp[b0,Gx,nG,AD,o6]
 rw[e1]
 have e2:∀n,n∈[0,1,2,3].filter (fun x=>H x&&H (4+5*x))→Gx (o6 n) b0.head=id n:=by
  intro n hn
  rcases four (List.mem_filter.1 hn).1 with rfl | rfl | rfl | rfl<;>rfl
 rw[List.map_congr_left e2,List.map_id]
theorem Nt(H:Nat→Bool):fo b1 H=[0,1,2,3].filter fun x=>H x&&H (20+5*x):=by
 unfold fo EW
 rw[Xe]
 have e1:([0,1,2,3].filter fun n=>b1.body.all fun b=>H (Gx (o6 n) b))=[0,1,2,3].filter fun x=>H x&&H (20+5*x):=by
  apply List.filter_congr
  intro n hn
  rcases four hn with rfl | rfl | rfl | rfl<;>simp[b1,Gx,nG,AD,o6]
 rw[e1]
 have e2:∀n,n∈[0,1,2,3].filter (fun x=>H x&&H (20+5*x))→Gx (o6 n) b1.head=id n:=by
  intro n hn
  rcases four (List.mem_filter.1 hn).1 with rfl | rfl | rfl | rfl<;>rfl
 rw[List.map_congr_left e2,List.map_id]
theorem xz(p:Nat→Bool)(i:Nat):jK ([0,1,2,3].filter p) i=if i<4∧p i=true then 1 else 0:=by
 unfold jK
 by_cases hp:p i=true
 · rw[List.count_filter hp]
   by_cases hi:i<4
   · rw[if_pos ⟨hi,hp⟩]
     have:i=0∨i=1∨i=2∨i=3:=by omega
     rcases this with rfl | rfl | rfl | rfl<;>rfl
   · rw[if_neg (fun h=>hi h.1)]
     rw[List.count_eq_zero]
     simp
     omega
 · rw[if_neg (fun h=>hp h.2),List.count_eq_zero]
   intro hc
   exact hp (List.mem_filter.1 hc).2
theorem Be{R:List bO}(hR:∀r,r∈R→ub r){G:Nat→Bool}(hG:∀i,36≤i→G i=false){s:dB cl}(hs:Inv (sR R) (gF G) s s.found.length){i:Nat}(hi:i<36):
 s.count (uF i)=(if i<4∧(ak R G i&&ak R G (4+5*i))=true then 1 else 0)+((if i<4∧(ak R G i&&ak R G (20+5*i))=true then 1 else 0)+(R.map fun r=>jK (fo r (ak R G)) i).sum):=by
 rw[Dh hR hG hs hi,MU,Nt,xz,xz]
theorem DF{R:List bO}(hR:∀r,r∈R→ub r){G:Nat→Bool}{s:dB cl}(hs:Inv (sR R) (gF G) s 0)(fuel:Nat)(hf:200<fuel):∃s',search (sR R) 200 fuel 0 s=some s':=by
 have hX:nr (eR R) (fun i=>i<36):=fun r hr n hn _=>oN (fun j _=>iG (iJ.1 hn).1 j) (zW hR r hr).head
 have hU:∀f,f∈(List.range 36).map uF↔XF (fun i=>i<36) f:=by
  intro f
  rw[List.mem_map]
  constructor
  · rintro⟨i,hi,rfl⟩
    exact⟨i,by simpa using hi,by simpa using hi,rfl⟩
  · rintro⟨i,hi,_,rfl⟩
    exact⟨i,by simpa using hi,rfl⟩
 have hc:Bx (sR R) (· ∈(List.range 36).map uF):=by
  intro r hr fs hl OO h hi
  exact(hU h).2 (s5 (zW hR) hX r hr fs hl (fun f hf=>(hU f).1 (OO f hf)) h hi)
 exact uo (Bv hR) ((List.range 36).map uF) (by simp) hc (fun f ⟨i,hi,_,e⟩=>(hU f).2 ⟨i,hi,hi,e⟩) fuel 0 s hs (Nat.zero_le _) (by omega)
end En
end Go.Proofs.YtdmicblafmhflaaGreatDoor
