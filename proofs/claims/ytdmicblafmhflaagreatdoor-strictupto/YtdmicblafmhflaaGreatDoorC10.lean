/- axiomkeep: what text writes, as tokens. No program here. -/
import Derived.Test.YtdmicblafmhflaaGreatDoorC09
import Derived.Deep.AppendLies
import Derived.Test.YtdmicblafmhflaaGreatDoorC03
set_option linter.unusedSimpArgs false
set_option linter.unusedVariables false
set_option maxHeartbeats 4000000
set_option maxRecDepth 100000
namespace Go.Proofs.YtdmicblafmhflaaGreatDoor
section
def uV(p:Nat)(ts:List Nat):ByteArray:=lJ ts 0 (Ax.cq p++⟨#[40]⟩)++⟨#[41]⟩
def wA(b:Ax.dW):ByteArray:=uV (Ax.a8 b.pred 3) (Ax.bT b)
def kV:List Ax.dW→Nat→ByteArray→ByteArray
 | [],_,s=>s
 | b::l,k,s=>kV l (k+1) ((if k=0 then s++⟨#[58,45]⟩else s++⟨#[44]⟩)++wA b)
def An(r:Ax.aM)(s:ByteArray):ByteArray:=kV (Ax.jW r) 0 (s++uV (Ax.a8 r.head.pred 3) (Ax.eJ r))++⟨#[46]⟩
def kQ:List Ax.aM→ByteArray→ByteArray
 | [],s=>s
 | r::l,s=>kQ l (An r s)
theorem Bc(a:Ax.dW):Ax.bT a≠[]:=by unfold Ax.bT;split<;>simp
theorem Nw(r:Ax.aM):Ax.eJ r≠[]:=by
 unfold Ax.eJ
 intro h
 exact Bc r.head (List.map_eq_nil_iff.1 h)
theorem DK(b:Ax.dW):(wA b).data.toList=dA (Ax.dx (Ax.jQ (Ax.a8 b.pred 3) (Ax.bT b))):=qa _ _ (Bc b)
def UP(b:Ax.dW):Ax.EA:=Ax.jQ (Ax.a8 b.pred 3) (Ax.bT b)
theorem EZ:∀(l:List Ax.dW) (k:Nat) (s:ByteArray),0<k→(kV l k s).data.toList=s.data.toList++l.flatMap fun b=>44::dA (Ax.dx (UP b))
 | [],_,s,_=>by simp[kV]
 | b::l,k,s,h=>by
  rw[kV,EZ l (k+1) _ (by omega),if_neg (by omega)]
  simp only[ByteArray.data_append,Array.toList_append,DK]
  simp[UP]
theorem rT:∀(l:List Ax.dW) (b:Ax.dW),dA (Ax.dB ((b::l).map UP))=dA (Ax.dx (UP b))++l.flatMap fun b=>44::dA (Ax.dx (UP b))
 | [],b=>by simp[Ax.dB]
 | c::l,b=>by
  have ih:=rT l c
  rw[List.map_cons]at ih
  rw[List.map_cons,List.map_cons,Ax.dB,gh,gW,ih]
  simp[Ax.lz]
theorem EO(r:Ax.aM)(s:ByteArray):(An r s).data.toList=s.data.toList++dA (Ax.eZ (Ax.LY r)):=by
 have hb:(Ax.LY r).2=(Ax.jW r).map UP:=rfl
 have hh:(Ax.LY r).1=Ax.jQ (Ax.a8 r.head.pred 3) (Ax.eJ r):=rfl
 have hw:(uV (Ax.a8 r.head.pred 3) (Ax.eJ r)).data.toList=dA (Ax.dx (Ax.LY r).1):=by rw[hh];exact qa _ _ (Nw r)
 unfold An Ax.eZ
 rw[hb]
 cases Ax.jW r with
 | nil=>simp[kV,ByteArray.data_append,hw,gh,dA]
 | cons b l=>
  rw[kV,if_pos rfl,ByteArray.data_append,Array.toList_append,EZ l 1 _ (by omega)]
  simp only[ByteArray.data_append,Array.toList_append,hw,DK]
  rw[if_neg (by simp),gh,gh,gW,rT]
  simp[dA,UP]
theorem rJ:∀(l:List Ax.aM) (s:ByteArray),(kQ l s).data.toList=s.data.toList++dA (Ax.br (l.map Ax.LY))
 | [],s=>by simp[kQ,Ax.br,dA]
 | r::l,s=>by
  rw[kQ,rJ l,EO,List.map_cons]
  simp[Ax.br,dA]
def xF:ByteArray:=⟨(dA (Ax.br Ax.re)).toArray⟩
theorem Ol:xF=⟨#[110,40,88,41,58,45,110,40,88,41,44,101,40,88,44,88,41,46,110,40,88,41,58,45,110,40,88,41,44,112,195,188,40,88,44,88,41,46]⟩:=by rfl
theorem Ht(l:List Ax.aM):kQ (l.take 6) xF=Ax.aH l:=by
 have h:=rJ (l.take 6) xF
 have e:(kQ (l.take 6) xF).data.toList=(Ax.aH l).data.toList:=by
  rw[h]
  simp[xF,Ax.aH,Ax.gR,Ax.br,dA]
 cases h1:kQ (l.take 6) xF with | mk x=>
 cases h2:Ax.aH l with | mk y=>
 rw[h1,h2]at e
 simp at e
 rw[e]
end
/- axiomkeep: head. -/
section
open Go.RowKit
theorem Tryz.Pb:(Tryz.prog.info? 3).map (fun i=>(i.zero,i.size,i.bytes))=some (some (.int .i64 0),1,8):=by kernel_rfl
structure tD(w:World)(g o:Nat)(a:Ax.dW):Prop where
 c0:w.cell? ⟨g,o,none⟩=some (.int .i64 a.pred)
 c1:w.cell? ⟨g,o+1,none⟩=some (.int .i64 a.a)
 c2:w.cell? ⟨g,o+2,none⟩=some (.int .i64 a.b)
 f0:b8 a.pred
 f1:b8 a.a
 f2:b8 a.b
structure iB(w:World)(ad:Option Addr)(n c:Nat)(l:List Ax.dW):Prop where
 len:l.length=n
 cap:n≤c
 max:c≤maxLen
 none_:ad=none→n=0
 at_:∀k (h:k<l.length),∃g o,ad=some ⟨g,o,none⟩∧tD w g (o+k*3) l[k]
theorem bS{w w':World}(hb:Below w.heap.size w w'){p:Addr}{v:Value}(h:w.cell? p=some v):w'.cell? p=some v:=by
 rw[hb.cell (World.block_lt_of_cell? _ _ h),h]
theorem tD.below{w w':World}{g o:Nat}{a:Ax.dW}(h:tD w g o a)(hb:Below w.heap.size w w'):tD w' g o a:=
 ⟨bS hb h.c0,bS hb h.c1,bS hb h.c2,h.f0,h.f1,h.f2⟩
theorem iB.below{w w':World}{ad:Option Addr}{n c:Nat}{l:List Ax.dW}(h:iB w ad n c l)(hb:Below w.heap.size w w'):iB w' ad n c l:=
 ⟨h.len,h.cap,h.max,h.none_,fun k hk=>let ⟨g,o,e,ha⟩:=h.at_ k hk;⟨g,o,e,ha.below hb⟩⟩
theorem iB.two{w:World}{ad:Option Addr}{n c:Nat}{r:Ax.aM}(h:iB w ad n c r.body):iB w ad (min n 2) c (Ax.jW r):=by
 refine⟨?_, ?_,h.max, ?_, ?_⟩
 · unfold Ax.jW;rw[List.length_take,h.len];omega
 · have:=h.cap;omega
 · intro e;have:=h.none_ e;omega
 · intro k hk
   unfold Ax.jW at hk ⊢
   rw[List.length_take]at hk
   obtain⟨g,o,e,ha⟩:=h.at_ k (by omega)
   exact⟨g,o,e,by rw[List.getElem_take];exact ha⟩
theorem EL{w:World}{ad:Option Addr}{n c:Nat}{l:List Ax.dW}(h:iB w ad n c l)(p a b:Int):∀w1,Calls Tryz.prog 63 #[.agg #[.int .i64 p,.int .i64 a,.int .i64 b,.slice ad n c]] w1 fun e w'=>e=.returned (.slice ad (min n 2) c)∧Below w1.heap.size w1 w':=by
 intro w1
 cases ad with
 | none=>
  have hn:=h.none_ rfl
  subst hn
  exact JP w1 p a b c
 | some ad=>exact Mi w1 p a b ad n c h.cap h.max
def fv(L:List Nat)(h:Nat):Nat:=if h<3∧¬h∈L then h+3 else h
def hx(T L:List Nat)(i:Nat):List Nat:=(T.take i).map (fv L)++T.drop i
theorem Lz(T L:List Nat)(i:Nat):(hx T L i).length=T.length:=by simp[hx];omega
theorem QG(T L:List Nat):hx T L 0=T:=by simp[hx]
theorem UN(T L:List Nat):hx T L T.length=T.map (fv L):=by simp[hx]
theorem UA{T:List Nat}(L:List Nat){i:Nat}(h:i<T.length):(aE (hx T L i))[i]?=some (.int .i64 T[i]):=by
 have e:(hx T L i)[i]?=some T[i]:=by
  unfold hx
  rw[List.getElem?_append_right (by simp;omega)]
  simp[Nat.min_eq_left (Nat.le_of_lt h)]
 simp[aE,e]
theorem Jd{T:List Nat}(L:List Nat){i:Nat}(h:i<T.length):(hx T L i).set i (fv L T[i])=hx T L (i+1):=by
 unfold hx
 rw[List.drop_eq_getElem_cons h,List.take_succ_eq_append_getElem h]
 have hl:((T.take i).map (fv L)).length=i:=by simp;omega
 rw[List.set_append_right _ _ (by omega),hl,Nat.sub_self,List.set_cons_zero,List.map_append,List.map_cons,List.map_nil,List.append_assoc]
 rfl
theorem RA{T:List Nat}(L:List Nat){i:Nat}(h:i<T.length)(e:fv L T[i]=T[i]):hx T L (i+1)=hx T L i:=by
 rw[←Jd L h,e]
 have e1:(hx T L i)[i]?=some T[i]:=by
  unfold hx
  rw[List.getElem?_append_right (by simp;omega)]
  simp[Nat.min_eq_left (Nat.le_of_lt h)]
 apply List.ext_getElem?
 intro k
 by_cases hk:i=k
 · subst hk
   rw[List.getElem?_set_self (by rw[Lz];exact h),e1]
 · rw[List.getElem?_set_ne hk]
theorem BV(l:List Nat)(i x:Nat):(aE l).set i (.int .i64 (x:Int))=aE (l.set i x):=by
 simp[aE,List.map_set]
theorem BN{w:World}{b:Nat}{e:TypeId}{size g n cap:Nat}{xs:List Value}(h:w.ownsRow b e size (.slice (some ⟨g,0,none⟩) n cap) n xs)(j:Nat)(v:Value):
 (w.setCell ⟨g,j,none⟩ v).ownsRow b e size (.slice (some ⟨g,0,none⟩) n cap) n (xs.set j v):=by
 refine⟨by rw[List.length_set];exact h.1, ?_⟩
 rcases h.2 with⟨e1,_⟩ | ⟨g',G1,cur,hv,hg,hh,h1,h2,h3,h4⟩
 · simp at e1
 · simp only[Value.slice.injEq,Option.some.injEq,Addr.mk.injEq]at hv
   obtain⟨⟨rfl,_⟩,_,rfl⟩:=hv
   refine .inr ⟨g,cap,cur.setIfInBounds j v,rfl,hg,heap_setCell_same hh v,h1,h2,by simpa using h3, ?_⟩
   rw[Array.toList_setIfInBounds,List.take_set,h4]
theorem Vj{w:World}{b g n cap:Nat}{T L:List Nat}{i:Nat}(hi:i<T.length){x:Nat}(FL:fv L T[i]=x)(h:w.ownsRow b 3 1 (.slice (some ⟨g,0,none⟩) n cap) n (aE (hx T L i))):
 (w.setCell ⟨g,i,none⟩ (.int .i64 (x:Int))).ownsRow b 3 1 (.slice (some ⟨g,0,none⟩) n cap) n (aE (hx T L (i+1))):=by
 have:=BN h i (.int .i64 (x:Int))
 rw[BV,←FL,Jd L hi]at this
 rw[←FL]
 exact this
theorem vD(l m:List Nat):aE l++aE m=aE (l++m):=by simp[aE]
theorem vg(l:List Nat):(aE l).length=l.length:=by simp[aE]
theorem zy(l:List Nat):∀u,u∈aE l→u.oneCell'=true:=by
 intro u hu
 obtain⟨n,_,rfl⟩:=List.mem_map.1 hu
 rfl
theorem JJ(gb:List Ax.dW){i:Nat}(h:i<gb.length):(gb.take (i+1)).flatMap Ax.bT=(gb.take i).flatMap Ax.bT++Ax.bT gb[i]:=by
 rw[List.take_succ_eq_append_getElem h,List.flatMap_append,List.flatMap_cons,List.flatMap_nil,List.append_nil]
theorem kY(a:Ax.dW):0<(Ax.bT a).length∧(Ax.bT a).length≤2:=by
 unfold Ax.bT
 split<;>simp
end
/- axiomkeep: head, walked. -/
section
open Go.RowKit
theorem ua{w w1:World}{o:Obj}(hb:Below (w.alloc o).heap.size (w.alloc o) w1):w1.heap[w.heap.size]?=some o∧Below w.heap.size w w1∧w.heap.size+1≤w1.heap.size:=by
 have hs:=hb.size
 simp only[World.size_alloc]at hs
 exact⟨(hb.block _ (by simp)).trans (heap_alloc_new _ _),((Below.refl _ _).alloc (Nat.le_refl _) _).trans (hb.mono (by simp)),by omega⟩
theorem Lw{w wr w1:World}{o:Obj}(r:wr.heap[w.heap.size]?=some o)(hb:Below w.heap.size w wr)(h1:Below wr.heap.size wr w1):w1.heap[w.heap.size]?=some o∧Below w.heap.size w w1:=
 ⟨(h1.block _ (lt_of_heap r)).trans r,hb.trans (h1.mono hb.size)⟩
theorem Lk{w w1 w2:World}{o:Obj}{row:Option Nat}(r:w1.heap[w.heap.size]?=some o)(hb:Below w.heap.size w w1)(hg:w1.grownBy w2 row)(hr:∀k,row=some k→w.heap.size+1≤k):w2.heap[w.heap.size]?=some o∧Below w.heap.size w w2:=by
 refine⟨?_,hb.grown hg hb.size (fun k hk=>by have:=hr k hk;omega)⟩
 rw[hg.block _ (lt_of_heap r) (fun e=>by have:=hr _ e.symm;omega)]
 exact r
theorem NW(w:World)(r:Ax.aM)(ad:Option Addr)(n c:Nat)(hB:iB w ad n c r.body)(h0:b8 r.head.pred)(h1:b8 r.head.a)(h2:b8 r.head.b):
 Calls Tryz.prog 62 #[.agg #[.int .i64 r.head.pred,.int .i64 r.head.a,.int .i64 r.head.b,.slice ad n c]] w fun e w'=>∃d c',e=.returned (.slice d (Ax.eJ r).length c')∧w'.ownsRow w.heap.size 3 1 (.slice d (Ax.eJ r).length c') (Ax.eJ r).length (aE (Ax.eJ r))∧Below w.heap.size w w':=by
 have ss:=EL hB r.head.pred r.head.a r.head.b
 have L3:=hB.two
 have Ca:c≤9223372036854775807:=hB.max
 obtain⟨m,hm⟩:∃m,min n 2=m:=⟨_,rfl⟩
 have M9:m≤2:=by omega
 rw[hm]at ss L3
 clear hm hB
 have WD:=fun w=>qo w r.head h0 h1 h2
 have hgh:Ax.eJ r=(Ax.bT r.head).map (fv ((Ax.jW r).flatMap Ax.bT)):=rfl
 have Y5:=kY r.head
 rw[hgh]
 clear hgh
 generalize Ax.jW r=gb at*
 generalize Ax.bT r.head=T at*
 rcases r with⟨⟨p,a,b⟩,bd⟩
 simp only at*
 clear h0 h1 h2 bd
 obtain⟨R,hR⟩:∃R,gb.flatMap Ax.bT=R:=⟨_,rfl⟩
 rw[hR]
 have HR:Hid (gb.flatMap Ax.bT=R):=hR
 clear hR
 rw[List.length_map]
 obtain⟨i0,hi,eX,eP,eA⟩:=info_parts Tryz.Pb
 have HI:Hid (Tryz.prog.info? 3=some i0):=hi
 have Y2:Hid (i0.zero=some (.int .i64 0)):=eX
 have ZE:Hid (i0.size=1):=eP
 have Xd:Hid (i0.bytes=8):=eA
 clear hi eX eP eA
 go_enter Tryz.func62,Tryz.ntmps62
 go_wp2_with (go_at_call 63;refine(ss _).mono ?_;rintro e w1 ⟨rfl,bk⟩)
 obtain⟨r1,bw1,sz1⟩:=ua bk
 clear bk
 go_loopw [3,5] (fun lv iv wr=>∃(i:Nat) (ld:Option Addr) (lc:Nat) (L:List Nat),i≤m∧lv=.slice ld L.length lc∧iv=.int .i64 i∧L.length≤2*i∧(gb.take i).flatMap Ax.bT=L∧wr.heap[w.heap.size]?=some (.cells #[.int .i64 p,.int .i64 a,.int .i64 b,.slice ad n c] 94 (0,0))∧Below w.heap.size w wr∧w.heap.size+1≤wr.heap.size∧wr.ownsRow (w.heap.size+1) 3 1 (.slice ld L.length lc) L.length (aE L)) (fun _ iv _=>m-(intOf iv).toNat)
 case atStart=>exact⟨0,none,0,[],Nat.zero_le _,rfl,rfl,Nat.zero_le _,rfl,r1,bw1,sz1,⟨by simp[aE],.inl ⟨rfl,rfl⟩⟩⟩
 case round=>
  obtain⟨i,ld,lc,L,hi,rfl,rfl,hL2,hL,CK,aR,cr,aj⟩:=hrel
  have HL:Hid ((gb.take i).flatMap Ax.bT=L):=hL
  clear hL r1 bw1 sz1
  have Ry:=aR.size
  by_cases aC:i<m
  · have hlen:=L3.len
    obtain⟨g,o,Tl,ha⟩:=L3.at_ i (by omega)
    subst Tl
    have ha:=ha.below aR
    have HN:Hid ((gb.take (i+1)).flatMap Ax.bT=L++Ax.bT gb[i]):=by
     show _=_
     rw[JJ gb (by omega),HL.out]
    generalize gb[i]=x at*
    obtain⟨e0,e1,e2,f0,f1,f2⟩:=ha
    have Us:=fun w=>qo w x f0 f1 f2
    obtain⟨pE,Jr⟩:=kY x
    generalize Ax.bT x=X at*
    rcases x with⟨xp,xa,xb⟩
    simp only at e0 e1 e2 Us
    clear f0 f1 f2 L3 ss WD hlen
    go_wp2_with (first | (go_at_call 64;refine(Us _).mono ?_;rintro e w2 ⟨d2,c2,rfl,aO,cM⟩;obtain⟨g2,rfl,dL,uw,Hs⟩:=ax aO pE;have Sx:=af aj cM;have ab6:=cM.size) | (at_builtin;refine wpList_append_lies _ rfl (.tmp 23) (.tmp 24) 31 rfl (w.heap.size+1) 3 i0 _ 1 8 Tryz.underlying31 HI.out Y2.out ZE.out Xd.out rfl (by decide) _ _ _ rfl Sx ⟨g2,0,none⟩ X.length c2 (aE X) rfl (by rw[vg,Nat.mul_one]) (fun j u hu=>by rw[Addr.add_lit,Nat.zero_add];exact Hs j u hu) (zy X) pE (by unfold maxLen;omega) (by omega) (by omega) _ rfl ?_;intro g3 acT w3 fG gI _ Xl))
    obtain⟨r2,bw2⟩:=Lw CK aR cM
    obtain⟨r3,bw3⟩:=Lk r2 bw2 gI (fun k hk=>(Sx.lt k hk).1)
    go_roundw
    case rel=>
     refine⟨i+1,some ⟨g3,0,none⟩,acT,L++X,by omega,by rw[List.length_append],by go_num,by rw[List.length_append];omega,HN.out,r3,bw3,by have:=gI.size;omega, ?_⟩
     rw[List.length_append,←vD]
     exact fG
    case measure=>simp[intOf];omega
  · obtain⟨wA,rfl⟩:∃x,x=wr:=⟨wr,rfl⟩
    have hlen:=L3.len
    have hLR:L=R:=by rw[←HL.out,←HR.out,List.take_of_length_le (by omega)]
    subst hLR
    clear HL HR L3 ss
    have k0:=ab CK 0
    have k1:=ab CK 1
    have k2:=ab CK 2
    have k3:=ab CK 3
    simp only[List.getElem?_toArray,List.getElem?_cons_zero,List.getElem?_cons_succ]at k0 k1 k2 k3
    go_wp2_with (go_at_call 64;refine(WD _).mono ?_;rintro e w2 ⟨d2,c2,rfl,aO,cM⟩;obtain⟨g2,rfl,dL,uw,Hs⟩:=ax aO Y5.1;have ab6:=cM.size)
    clear k0 k1 k2 k3 Hs WD
    go_loopw [8] (fun iv wx=>∃(j:Nat),j≤T.length∧iv=.int .i64 j∧Below wA.heap.size wA wx∧wx.ownsRow wA.heap.size 3 1 (.slice (some ⟨g2,0,none⟩) T.length c2) T.length (aE (hx T L j))) (fun iv _=>T.length-(intOf iv).toNat)
    case atStart=>exact⟨0,Nat.zero_le _,rfl,cM,by rw[QG];exact aO⟩
    case round=>
     obtain⟨j,hj,rfl,nG,uM⟩:=hrel
     have aiE:=nG.size
     by_cases Lh:j<T.length
     · have e0:=World.ownsRow.cells uM (g:=g2) rfl j _ (UA L Lh)
       rw[Addr.add_lit,Nat.zero_add]at e0
       have fz:=uM.frozenAt j
       have dQ:=US wr _ ld lc L (af aj nG)
       have HK:Hid (fv L T[j]=T[j]→hx T L (j+1)=hx T L j):=RA L Lh
       have HO:Hid (∀x:Nat,fv L T[j]=x→(wr.setCell ⟨g2,j,none⟩ (.int .i64 (x:Int))).ownsRow wA.heap.size 3 1 (.slice (some ⟨g2,0,none⟩) T.length c2) T.length (aE (hx T L (j+1)))):=fun x FL=>Vj Lh FL uM
       generalize T[j]=x at*
       have dQ:=dQ x
       by_cases Wd:x<3
       · have eB:decide ((x:Int)<3)=true:=by simp;omega
         by_cases hm:x∈L
         · have hd:decide (x∈L)=true:=by simpa using hm
           rw[hd]at dQ
           have hf:fv L x=x:=by simp[fv,hm]
           have HE:=HK.out hf
           go_wp2_with (go_at_call 123;refine dQ.mono ?_;rintro e w3 ⟨rfl,rfl⟩)
           go_roundw
           case rel=>exact⟨j+1,by omega,by go_num,nG,by rw[HE];exact uM⟩
           case measure=>simp[intOf];omega
         · have hd:decide (x∈L)=false:=by simpa using hm
           rw[hd]at dQ
           have hf:fv L x=x+3:=by simp[fv,hm,Wd]
           have HE:Hid _:=HO.out _ hf
           clear HK HO
           go_wp2_with (go_at_call 123;refine dQ.mono ?_;rintro e w3 ⟨rfl,rfl⟩)
           go_roundw
           case rel=>
            refine⟨j+1,by omega,by go_num,nG.setCell (p:=⟨g2,j,none⟩) (uM.lt g2 rfl).1 _, ?_⟩
            exact HE.out
           case measure=>simp[intOf];omega
       · have eB:decide ((x:Int)<3)=false:=by simp;omega
         have hf:fv L x=x:=by simp[fv,Wd]
         have HE:=HK.out hf
         generalize decide (x∈L)=B at dQ
         go_wp2_with (go_at_call 123;refine dQ.mono ?_;rintro e w3 ⟨rfl,rfl⟩)
         go_roundw
         case rel=>exact⟨j+1,by omega,by go_num,nG,by rw[HE];exact uM⟩
         case measure=>simp[intOf];omega
     · have hjT:j=T.length:=by omega
       subst hjT
       rw[UN]at uM
       go_wp2_with fail
       go_ret
       exact⟨_,_,rfl,aN uM aR.size,aR.trans (nG.mono aR.size)⟩
end
/- The blanks that Plain lays between the tokens. No program here. -/
namespace Ax
def da(c:Int):List UInt8:=[32,32,10,32].take (a8 c 4)
end Ax
/- What the search finds is what axiomkeep's least works out, and as often. No program here. -/
namespace En
open Ax (bZ cq iF dG gZ)
def b0:bN:=⟨(0,[0]),[(0,[0]),(1,[0,0])]⟩
def b1:bN:=⟨(0,[0]),[(0,[0]),(2,[0,0])]⟩
theorem TE:tT b0 where
 head:=⟨⟨by decide,rfl⟩,by decide⟩
 body:=by
  intro b hb
  simp[b0]at hb
  rcases hb with rfl | rfl
  · exact⟨⟨by decide,rfl⟩,by decide⟩
  · exact⟨⟨by decide,rfl⟩,by decide⟩
 two:=by decide
 safe:=fun n hn _=>⟨(0,[0]),by simp[b0],hn⟩
theorem Ts:tT b1 where
 head:=⟨⟨by decide,rfl⟩,by decide⟩
 body:=by
  intro b hb
  simp[b1]at hb
  rcases hb with rfl | rfl
  · exact⟨⟨by decide,rfl⟩,by decide⟩
  · exact⟨⟨by decide,rfl⟩,by decide⟩
 two:=by decide
 safe:=fun n hn _=>⟨(0,[0]),by simp[b1],hn⟩
def eR(R:List bN):List bN:=b0::b1::R
def sR(R:List bN):List (dP bE):=(eR R).map fun r=>cp (cR r)
theorem AP{R:List bN}(h:∀r,r∈R→tT r):∀r,r∈eR R→tT r:=by
 intro r hr
 rcases List.mem_cons.1 hr with rfl | hr
 · exact TE
 · rcases List.mem_cons.1 hr with rfl | hr
   · exact Ts
   · exact h r hr
theorem wi(r:bN):(cp (cR r)).k=r.body.length:=by simp[cp,cR]
theorem Cy{R:List bN}(h:∀r,r∈R→tT r):∀r,r∈sR R→r.k≤2:=by
 intro r hr
 obtain⟨q,hq,rfl⟩:=List.mem_map.1 hr
 rw[wi]
 exact(AP h q hq).two
theorem Rn{R:List bN}{r:bN}(hr:tT r){H:Nat→Bool}{i:Nat}(hi:i∈gO r H):i<36:=by
 obtain⟨n,hn,rfl⟩:=List.mem_map.1 hi
 unfold GG at hn
 exact oB (fun j _=>jg (jd.1 (List.mem_filter.1 hn).1).1 j) hr.head
theorem rX:∀(R:List bN),(∀r,r∈R→tT r)→∀(H:Nat→Bool) (i:Nat),36≤i→H i=false→dn R H i=false
 | [],_,_,_,_,h=>h
 | r::R,hR,H,i,hi,h=>by
  show dn R (ix H (gO r H)) i=false
  refine rX R (fun q hq=>hR q (by simp[hq])) _ i hi ?_
  simp only[ix,h,Bool.false_or,decide_eq_false_iff_not]
  intro hc
  have:=Rn (R:=R) (hR r (by simp)) hc
  omega
def c8(R:List bN)(G:Nat→Bool):Nat→Bool:=rounds R 37 G
theorem Ci{R:List bN}(hR:∀r,r∈R→tT r){G:Nat→Bool}(hG:∀i,36≤i→G i=false):ng R (fun i=>c8 R G i=true):=by
 intro r hr n hn hb
 have hs:=uC (rX R hR) 37 G hG (by omega)
 show rounds R 37 G _=true
 rw[←hs]
 refine rD R _ r hr _ (List.mem_map.2 ⟨n, ?_,rfl⟩)
 unfold GG
 rw[List.mem_filter,List.all_eq_true]
 exact⟨hn,hb⟩
theorem xy{R:List bN}(hR:∀r,r∈R→tT r){G:Nat→Bool}(hG:∀i,36≤i→G i=false):ng (eR R) (fun i=>c8 R G i=true):=by
 intro r hr n hn hb
 rcases List.mem_cons.1 hr with rfl | hr
 · exact hb (0,[0]) (by simp[b0])
 · rcases List.mem_cons.1 hr with rfl | hr
   · exact hb (0,[0]) (by simp[b1])
   · exact Ci hR hG r hr n hn hb
def gF(G:Nat→Bool)(f:bE):Prop:=∃i,i<36∧G i=true∧f=uF i
def XF(X:Nat→Prop)(f:bE):Prop:=∃i,i<36∧X i∧f=uF i
theorem tp{E:List bN}(hE:∀r,r∈E→tT r){X:Nat→Prop}(hX:ng E X):yi (E.map fun r=>cp (cR r)) (XF X):=by
 intro r' Bw fs hl F5 h hi
 obtain⟨r,hr,rfl⟩:=List.mem_map.1 Bw
 have cB:=hE r hr
 have abT:∀f,f∈fs→Can f:=by
  intro f hf
  obtain⟨i,hi,_,rfl⟩:=F5 f hf
  exact Nc hi
 obtain⟨n,hn,e⟩:=Nv cB abT hi
 have VV:=(jd.1 hn).1
 have hv:∀j,j<3→pI n j<4:=fun j _=>jg VV j
 have hh:h=subst (pI n) r.head:=by
  have h1:gM (cR r) fs=some h:=hi
  rw[←e,qP cB VV]at h1
  exact(Option.some.inj h1).symm
 refine⟨GC (pI n) r.head,oB hv cB.head, ?_,by rw[hh,tP hv cB.head]⟩
 apply hX r hr n hn
 intro b hb
 have hm:subst (pI n) b∈fs:=by rw[←e];exact List.mem_map.2 ⟨b,hb,rfl⟩
 obtain⟨i,acB,hXi,ei⟩:=F5 _ hm
 rw[←tP hv (cB.body b hb)]at ei
 rw[CI (oB hv (cB.body b hb)) acB ei]
 exact hXi
theorem iU{R:List bN}(hR:∀r,r∈R→tT r){G:Nat→Bool}{s:cU bE}{n:Nat}(hs:Inv (sR R) (gF G) s n):∀f,f∈s.found→Can f:=by
 intro f hf
 have hX:ng (eR R) (fun i=>i<36):=fun r hr n hn _=>oB (fun j _=>jg (jd.1 hn).1 j) (AP hR r hr).head
 obtain⟨i,hi,_,rfl⟩:=hs.least (XF fun i=>i<36) (tp (AP hR) hX) (fun f ⟨i,hi,_,e⟩=>⟨i,hi,hi,e⟩) f hf
 exact Nc hi
theorem mB{R:List bN}(hR:∀r,r∈R→tT r){G:Nat→Bool}(hG:∀i,36≤i→G i=false){s:cU bE}(hs:Inv (sR R) (gF G) s s.found.length){i:Nat}(hi:i<36):uF i∈s.found↔c8 R G i=true:=by
 constructor
 · intro hm
   obtain⟨j,hj,hX,e⟩:=hs.least (XF fun i=>c8 R G i=true) (tp (AP hR) (xy hR hG)) (fun f ⟨i,hi,hg,e⟩=>⟨i,hi,Bh 37 G i hg,e⟩) _ hm
   rw[CI hi hj e]
   exact hX
 · intro hl
   refine rO (R:=R) (X:=fun i=>i<36→uF i∈s.found) ?_ 37 G ?_ i hl hi
   · intro r hr n hn hb _
     have cB:=hR r hr
     have VV:=(jd.1 hn).1
     have hv:∀j,j<3→pI n j<4:=fun j _=>jg VV j
     have fk:cp (cR r)∈sR R:=List.mem_map.2 ⟨r,by simp[eR,hr],rfl⟩
     rw[tP hv cB.head]
     refine hs.done _ fk (Hv r n) ?_ _ (qP cB VV)
     rw[List.take_length,yG (Cy hR _ fk),wi]
     refine⟨by simp[Hv], ?_⟩
     intro f hf
     obtain⟨b,yN,rfl⟩:=List.mem_map.1 hf
     rw[←tP hv (cB.body b yN)]
     exact hb b yN (oB hv (cB.body b yN))
   · intro j hj ac7
     exact hs.given _ ⟨j,ac7,hj,rfl⟩
def kD(l:List Nat)(i:Nat):Nat:=l.count i
theorem yw{α:Type}{f:α→Nat}:∀(l:List α),(∀x,x∈l→f x<36)→∀{i:Nat},i<36→iy (l.map fun x=>uF (f x)) (uF i)=kD (l.map f) i
 | [],_,_,_=>rfl
 | x::l,h,i,hi=>by
  have ih:=yw l (fun y hy=>h y (by simp[hy])) hi
  rw[List.map_cons,List.map_cons,Fq,ih]
  unfold kD
  rw[List.count_cons]
  by_cases e:f x=i
  · subst e;simp
  · have e2:¬uF (f x)=uF i:=fun hc=>e (CI (h x (by simp)) hi hc)
    simp[e,e2]
theorem QE{R:List bN}(hR:∀r,r∈R→tT r){G:Nat→Bool}(hG:∀i,36≤i→G i=false){s:cU bE}(hs:Inv (sR R) (gF G) s s.found.length){r:bN}(hr:tT r):PY r s.found=GG r (c8 R G):=by
 unfold PY GG
 apply List.filter_congr
 intro n hn
 have VV:=(jd.1 hn).1
 have hv:∀j,j<3→pI n j<4:=fun j _=>jg VV j
 unfold Hv
 rw[List.all_map]
 apply Bool.eq_iff_iff.2
 rw[List.all_eq_true,List.all_eq_true]
 have key:∀b,b∈r.body→(hasB s.found (subst (pI n) b)=true↔c8 R G (GC (pI n) b)=true):=by
  intro b hb
  rw[yy,←tP hv (hr.body b hb)]
  exact mB hR hG hs (oB hv (hr.body b hb))
 constructor
 · intro h b hb
   exact(key b hb).1 (h b hb)
 · intro h b hb
   exact(key b hb).2 (h b hb)
theorem s9{R:List bN}(hR:∀r,r∈R→tT r){G:Nat→Bool}(hG:∀i,36≤i→G i=false){s:cU bE}(hs:Inv (sR R) (gF G) s s.found.length){r:bN}(hr:tT r){i:Nat}(hi:i<36):
 jG (cp (cR r)) (fX (cp (cR r)).k s.found) (uF i)=kD (gO r (c8 R G)) i:=by
 rw[wi,V4 hr hs.nodup (iU hR hs),QE hR hG hs hr]
 have e:((GG r (c8 R G)).map fun n=>subst (pI n) r.head)=(GG r (c8 R G)).map fun n=>uF (GC (pI n) r.head):=by
  apply List.map_congr_left
  intro n hn
  unfold GG at hn
  exact(tP (fun j _=>jg (jd.1 (List.mem_filter.1 hn).1).1 j) hr.head).symm
 rw[e]
 exact yw _ (fun n hn=>by
  unfold GG at hn
  exact oB (fun j _=>jg (jd.1 (List.mem_filter.1 hn).1).1 j) hr.head) hi
theorem De{R:List bN}(hR:∀r,r∈R→tT r){G:Nat→Bool}(hG:∀i,36≤i→G i=false){s:cU bE}(hs:Inv (sR R) (gF G) s s.found.length){i:Nat}(hi:i<36):
 s.count (uF i)=kD (gO b0 (c8 R G)) i+(kD (gO b1 (c8 R G)) i+(R.map fun r=>kD (gO r (c8 R G)) i).sum):=by
 rw[hs.counts,List.take_length]
 unfold total sR eR
 simp only[List.map_cons,List.sum_cons,List.map_map]
 rw[s9 hR hG hs TE hi,s9 hR hG hs Ts hi]
 congr 3
 apply List.map_congr_left
 intro r hr
 exact s9 hR hG hs (hR r hr) hi
theorem X3:vs b0=[0,1,2,3]:=by decide
theorem Xj:vs b1=[0,1,2,3]:=by decide
theorem four{n:Nat}(h:n∈[0,1,2,3]):n=0∨n=1∨n=2∨n=3:=by simpa using h
theorem Pw(H:Nat→Bool):gO b0 H=[0,1,2,3].filter fun x=>H x&&H (4+5*x):=by
 unfold gO GG
 rw[X3]
 have e1:([0,1,2,3].filter fun n=>b0.body.all fun b=>H (GC (pI n) b))=[0,1,2,3].filter fun x=>H x&&H (4+5*x):=by
  apply List.filter_congr
  intro n hn
  rcases four hn with rfl | rfl | rfl | rfl<;>simp[b0,GC,mZ,AF,pI]
 rw[e1]
 have e2:∀n,n∈[0,1,2,3].filter (fun x=>H x&&H (4+5*x))→GC (pI n) b0.head=id n:=by
  intro n hn
  rcases four (List.mem_filter.1 hn).1 with rfl | rfl | rfl | rfl<;>rfl
 rw[List.map_congr_left e2,List.map_id]
theorem MH(H:Nat→Bool):gO b1 H=[0,1,2,3].filter fun x=>H x&&H (20+5*x):=by
 unfold gO GG
 rw[Xj]
 have e1:([0,1,2,3].filter fun n=>b1.body.all fun b=>H (GC (pI n) b))=[0,1,2,3].filter fun x=>H x&&H (20+5*x):=by
  apply List.filter_congr
  intro n hn
  rcases four hn with rfl | rfl | rfl | rfl<;>simp[b1,GC,mZ,AF,pI]
 rw[e1]
 have e2:∀n,n∈[0,1,2,3].filter (fun x=>H x&&H (20+5*x))→GC (pI n) b1.head=id n:=by
  intro n hn
  rcases four (List.mem_filter.1 hn).1 with rfl | rfl | rfl | rfl<;>rfl
 rw[List.map_congr_left e2,List.map_id]
theorem yA(p:Nat→Bool)(i:Nat):kD ([0,1,2,3].filter p) i=if i<4∧p i=true then 1 else 0:=by
 unfold kD
 by_cases hp:p i=true
 · rw[List.count_filter hp]
   by_cases hi:i<4
   · rw[if_pos ⟨hi,hp⟩]
     have:i=0∨i=1∨i=2∨i=3:=by omega
     rcases this with rfl | rfl | rfl | rfl<;>rfl
   · rw[if_neg (fun h=>hi h.1)]
     rw[List.count_eq_zero]
     simp
     omega
 · rw[if_neg (fun h=>hp h.2),List.count_eq_zero]
   intro hc
   exact hp (List.mem_filter.1 hc).2
theorem sG{R:List bN}(hR:∀r,r∈R→tT r){G:Nat→Bool}(hG:∀i,36≤i→G i=false){s:cU bE}(hs:Inv (sR R) (gF G) s s.found.length){i:Nat}(hi:i<36):
 s.count (uF i)=(if i<4∧(c8 R G i&&c8 R G (4+5*i))=true then 1 else 0)+((if i<4∧(c8 R G i&&c8 R G (20+5*i))=true then 1 else 0)+(R.map fun r=>kD (gO r (c8 R G)) i).sum):=by
 rw[De hR hG hs hi,Pw,MH,yA,yA]
theorem EU{R:List bN}(hR:∀r,r∈R→tT r){G:Nat→Bool}{s:cU bE}(hs:Inv (sR R) (gF G) s 0)(fuel:Nat)(hf:200<fuel):∃s',search (sR R) 200 fuel 0 s=some s':=by
 have hX:ng (eR R) (fun i=>i<36):=fun r hr n hn _=>oB (fun j _=>jg (jd.1 hn).1 j) (AP hR r hr).head
 have hU:∀f,f∈(List.range 36).map uF↔XF (fun i=>i<36) f:=by
  intro f
  rw[List.mem_map]
  constructor
  · rintro⟨i,hi,rfl⟩
    exact⟨i,by simpa using hi,by simpa using hi,rfl⟩
  · rintro⟨i,hi,_,rfl⟩
    exact⟨i,by simpa using hi,rfl⟩
 have hc:yi (sR R) (· ∈(List.range 36).map uF):=by
  intro r hr fs hl F5 h hi
  exact(hU h).2 (tp (AP hR) hX r hr fs hl (fun f hf=>(hU f).1 (F5 f hf)) h hi)
 exact uU (Cy hR) ((List.range 36).map uF) (by simp) hc (fun f ⟨i,hi,_,e⟩=>(hU f).2 ⟨i,hi,hi,e⟩) fuel 0 s hs (Nat.zero_le _) (by omega)
end En
end Go.Proofs.YtdmicblafmhflaaGreatDoor
