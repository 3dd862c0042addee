/- axiomkeep: what text writes, as tokens. No program here. -/
import Derived.Test.YtdmicblafmhflaaGreatDoorC09
import Derived.Deep.AppendLies
import Derived.Test.YtdmicblafmhflaaGreatDoorC03
set_option linter.unusedSimpArgs false
set_option linter.unusedVariables false
set_option maxHeartbeats 4000000
set_option maxRecDepth 100000
namespace Go.Proofs.YtdmicblafmhflaaGreatDoor
section
def ux(p:Nat)(ts:List Nat):ByteArray:=lz ts 0 (Ax.cr p++⟨#[40]⟩)++⟨#[41]⟩
def wA(b:Ax.dR):ByteArray:=ux (Ax.bk b.pred 3) (Ax.bU b)
def kj:List Ax.dR→Nat→ByteArray→ByteArray
 | [],_,s=>s
 | b::l,k,s=>kj l (k+1) ((if k=0 then s++⟨#[58,45]⟩else s++⟨#[44]⟩)++wA b)
def Az(r:Ax.ay)(s:ByteArray):ByteArray:=kj (Ax.jO r) 0 (s++ux (Ax.bk r.head.pred 3) (Ax.eH r))++⟨#[46]⟩
def kS:List Ax.ay→ByteArray→ByteArray
 | [],s=>s
 | r::l,s=>kS l (Az r s)
theorem Ay(a:Ax.dR):Ax.bU a≠[]:=by unfold Ax.bU;split<;>simp
theorem Pt(r:Ax.ay):Ax.eH r≠[]:=by
 unfold Ax.eH
 intro h
 exact Ay r.head (List.map_eq_nil_iff.1 h)
theorem Dz(b:Ax.dR):(wA b).data.toList=dy (Ax.dn (Ax.jL (Ax.bk b.pred 3) (Ax.bU b))):=p6 _ _ (Ay b)
def Uo(b:Ax.dR):Ax.EA:=Ax.jL (Ax.bk b.pred 3) (Ax.bU b)
theorem Ew:∀(l:List Ax.dR) (k:Nat) (s:ByteArray),0<k→(kj l k s).data.toList=s.data.toList++l.flatMap fun b=>44::dy (Ax.dn (Uo b))
 | [],_,s,_=>by simp[kj]
 | b::l,k,s,h=>by
  rw[kj,Ew l (k+1) _ (by omega),if_neg (by omega)]
  simp only[ByteArray.data_append,Array.toList_append,Dz]
  simp[Uo]
theorem sD:∀(l:List Ax.dR) (b:Ax.dR),dy (Ax.dw ((b::l).map Uo))=dy (Ax.dn (Uo b))++l.flatMap fun b=>44::dy (Ax.dn (Uo b))
 | [],b=>by simp[Ax.dw]
 | c::l,b=>by
  have ih:=sD l c
  rw[List.map_cons]at ih
  rw[List.map_cons,List.map_cons,Ax.dw,fW,gB,ih]
  simp[Ax.lu]
theorem D8(r:Ax.ay)(s:ByteArray):(Az r s).data.toList=s.data.toList++dy (Ax.eZ (Ax.Kv r)):=by
 have hb:(Ax.Kv r).2=(Ax.jO r).map Uo:=rfl
 have hh:(Ax.Kv r).1=Ax.jL (Ax.bk r.head.pred 3) (Ax.eH r):=rfl
 have hw:(ux (Ax.bk r.head.pred 3) (Ax.eH r)).data.toList=dy (Ax.dn (Ax.Kv r).1):=by rw[hh];exact p6 _ _ (Pt r)
 unfold Az Ax.eZ
 rw[hb]
 cases Ax.jO r with
 | nil=>simp[kj,ByteArray.data_append,hw,fW,dy]
 | cons b l=>
  rw[kj,if_pos rfl,ByteArray.data_append,Array.toList_append,Ew l 1 _ (by omega)]
  simp only[ByteArray.data_append,Array.toList_append,hw,Dz]
  rw[if_neg (by simp),fW,fW,gB,sD]
  simp[dy,Uo]
theorem rK:∀(l:List Ax.ay) (s:ByteArray),(kS l s).data.toList=s.data.toList++dy (Ax.bp (l.map Ax.Kv))
 | [],s=>by simp[kS,Ax.bp,dy]
 | r::l,s=>by
  rw[kS,rK l,D8,List.map_cons]
  simp[Ax.bp,dy]
def wO:ByteArray:=⟨(dy (Ax.bp Ax.lr)).toArray⟩
theorem N2:wO=⟨#[110,40,88,41,58,45,110,40,88,41,44,101,40,88,44,88,41,46,110,40,88,41,58,45,110,40,88,41,44,112,195,188,40,88,44,88,41,46]⟩:=by rfl
theorem Fy(l:List Ax.ay):kS (l.take 6) wO=Ax.au l:=by
 have h:=rK (l.take 6) wO
 have e:(kS (l.take 6) wO).data.toList=(Ax.au l).data.toList:=by
  rw[h]
  simp[wO,Ax.au,Ax.gR,Ax.bp,dy]
 cases h1:kS (l.take 6) wO with | mk x=>
 cases h2:Ax.au l with | mk y=>
 rw[h1,h2]at e
 simp at e
 rw[e]
end
/- axiomkeep: head. -/
section
open Go.RowKit
theorem Tryz.Ed:(Tryz.prog.info? 3).map (fun i=>(i.zero,i.size,i.bytes))=some (some (.int .i64 0),1,8):=by kernel_rfl
structure uc(w:World)(g o:Nat)(a:Ax.dR):Prop where
 c0:w.cell? ⟨g,o,none⟩=some (.int .i64 a.pred)
 c1:w.cell? ⟨g,o+1,none⟩=some (.int .i64 a.a)
 c2:w.cell? ⟨g,o+2,none⟩=some (.int .i64 a.b)
 f0:cw a.pred
 f1:cw a.a
 f2:cw a.b
structure ib(w:World)(ad:Option Addr)(n c:Nat)(l:List Ax.dR):Prop where
 len:l.length=n
 cap:n≤c
 max:c≤maxLen
 none_:ad=none→n=0
 at_:∀k (h:k<l.length),∃g o,ad=some ⟨g,o,none⟩∧uc w g (o+k*3) l[k]
theorem bx{w w':World}(hb:Below w.heap.size w w'){p:Addr}{v:Value}(h:w.cell? p=some v):w'.cell? p=some v:=by
 rw[hb.cell (World.block_lt_of_cell? _ _ h),h]
theorem uc.below{w w':World}{g o:Nat}{a:Ax.dR}(h:uc w g o a)(hb:Below w.heap.size w w'):uc w' g o a:=
 ⟨bx hb h.c0,bx hb h.c1,bx hb h.c2,h.f0,h.f1,h.f2⟩
theorem ib.below{w w':World}{ad:Option Addr}{n c:Nat}{l:List Ax.dR}(h:ib w ad n c l)(hb:Below w.heap.size w w'):ib w' ad n c l:=
 ⟨h.len,h.cap,h.max,h.none_,fun k hk=>let ⟨g,o,e,ha⟩:=h.at_ k hk;⟨g,o,e,ha.below hb⟩⟩
theorem ib.two{w:World}{ad:Option Addr}{n c:Nat}{r:Ax.ay}(h:ib w ad n c r.body):ib w ad (min n 2) c (Ax.jO r):=by
 refine⟨?_, ?_,h.max, ?_, ?_⟩
 · unfold Ax.jO;rw[List.length_take,h.len];omega
 · have:=h.cap;omega
 · intro e;have:=h.none_ e;omega
 · intro k hk
   unfold Ax.jO at hk ⊢
   rw[List.length_take]at hk
   obtain⟨g,o,e,ha⟩:=h.at_ k (by omega)
   exact⟨g,o,e,by rw[List.getElem_take];exact ha⟩
theorem CO{w:World}{ad:Option Addr}{n c:Nat}{l:List Ax.dR}(h:ib w ad n c l)(p a b:Int):∀w1,Calls Tryz.prog 63 #[.agg #[.int .i64 p,.int .i64 a,.int .i64 b,.slice ad n c]] w1 fun e w'=>e=.returned (.slice ad (min n 2) c)∧Below w1.heap.size w1 w':=by
 intro w1
 cases ad with
 | none=>
  have hn:=h.none_ rfl
  subst hn
  exact Jp w1 p a b c
 | some ad=>exact OR w1 p a b ad n c h.cap h.max
def fv(L:List Nat)(h:Nat):Nat:=if h<3∧¬h∈L then h+3 else h
def hx(T L:List Nat)(i:Nat):List Nat:=(T.take i).map (fv L)++T.drop i
theorem KE(T L:List Nat)(i:Nat):(hx T L i).length=T.length:=by simp[hx];omega
theorem Qz(T L:List Nat):hx T L 0=T:=by simp[hx]
theorem UA(T L:List Nat):hx T L T.length=T.map (fv L):=by simp[hx]
theorem Vv{T:List Nat}(L:List Nat){i:Nat}(h:i<T.length):(aA (hx T L i))[i]?=some (.int .i64 T[i]):=by
 have e:(hx T L i)[i]?=some T[i]:=by
  unfold hx
  rw[List.getElem?_append_right (by simp;omega)]
  simp[Nat.min_eq_left (Nat.le_of_lt h)]
 simp[aA,e]
theorem Hl{T:List Nat}(L:List Nat){i:Nat}(h:i<T.length):(hx T L i).set i (fv L T[i])=hx T L (i+1):=by
 unfold hx
 rw[List.drop_eq_getElem_cons h,List.take_succ_eq_append_getElem h]
 have hl:((T.take i).map (fv L)).length=i:=by simp;omega
 rw[List.set_append_right _ _ (by omega),hl,Nat.sub_self,List.set_cons_zero,List.map_append,List.map_cons,List.map_nil,List.append_assoc]
 rfl
theorem QV{T:List Nat}(L:List Nat){i:Nat}(h:i<T.length)(e:fv L T[i]=T[i]):hx T L (i+1)=hx T L i:=by
 rw[←Hl L h,e]
 have e1:(hx T L i)[i]?=some T[i]:=by
  unfold hx
  rw[List.getElem?_append_right (by simp;omega)]
  simp[Nat.min_eq_left (Nat.le_of_lt h)]
 apply List.ext_getElem?
 intro k
 by_cases hk:i=k
 · subst hk
   rw[List.getElem?_set_self (by rw[KE];exact h),e1]
 · rw[List.getElem?_set_ne hk]
theorem BU(l:List Nat)(i x:Nat):(aA l).set i (.int .i64 (x:Int))=aA (l.set i x):=by
 simp[aA,List.map_set]
theorem Ct{w:World}{b:Nat}{e:TypeId}{size g n cap:Nat}{xs:List Value}(h:w.ownsRow b e size (.slice (some ⟨g,0,none⟩) n cap) n xs)(j:Nat)(v:Value):
 (w.setCell ⟨g,j,none⟩ v).ownsRow b e size (.slice (some ⟨g,0,none⟩) n cap) n (xs.set j v):=by
 refine⟨by rw[List.length_set];exact h.1, ?_⟩
 rcases h.2 with⟨e1,_⟩ | ⟨g',Ft,cur,hv,hg,hh,h1,h2,h3,h4⟩
 · simp at e1
 · simp only[Value.slice.injEq,Option.some.injEq,Addr.mk.injEq]at hv
   obtain⟨⟨rfl,_⟩,_,rfl⟩:=hv
   refine .inr ⟨g,cap,cur.setIfInBounds j v,rfl,hg,heap_setCell_same hh v,h1,h2,by simpa using h3, ?_⟩
   rw[Array.toList_setIfInBounds,List.take_set,h4]
theorem Vi{w:World}{b g n cap:Nat}{T L:List Nat}{i:Nat}(hi:i<T.length){x:Nat}(Ke:fv L T[i]=x)(h:w.ownsRow b 3 1 (.slice (some ⟨g,0,none⟩) n cap) n (aA (hx T L i))):
 (w.setCell ⟨g,i,none⟩ (.int .i64 (x:Int))).ownsRow b 3 1 (.slice (some ⟨g,0,none⟩) n cap) n (aA (hx T L (i+1))):=by
 have:=Ct h i (.int .i64 (x:Int))
 rw[BU,←Ke,Hl L hi]at this
 rw[←Ke]
 exact this
theorem vh(l m:List Nat):aA l++aA m=aA (l++m):=by simp[aA]
theorem vt(l:List Nat):(aA l).length=l.length:=by simp[aA]
theorem yV(l:List Nat):∀u,u∈aA l→u.oneCell'=true:=by
 intro u hu
 obtain⟨n,_,rfl⟩:=List.mem_map.1 hu
 rfl
theorem JD(gb:List Ax.dR){i:Nat}(h:i<gb.length):(gb.take (i+1)).flatMap Ax.bU=(gb.take i).flatMap Ax.bU++Ax.bU gb[i]:=by
 rw[List.take_succ_eq_append_getElem h,List.flatMap_append,List.flatMap_cons,List.flatMap_nil,List.append_nil]
theorem kN(a:Ax.dR):0<(Ax.bU a).length∧(Ax.bU a).length≤2:=by
 unfold Ax.bU
 split<;>simp
end
/- axiomkeep: head, walked. -/
section
open Go.RowKit
theorem sN{w w1:World}{o:Obj}(hb:Below (w.alloc o).heap.size (w.alloc o) w1):w1.heap[w.heap.size]?=some o∧Below w.heap.size w w1∧w.heap.size+1≤w1.heap.size:=by
 have hs:=hb.size
 simp only[World.size_alloc]at hs
 exact⟨(hb.block _ (by simp)).trans (heap_alloc_new _ _),((Below.refl _ _).alloc (Nat.le_refl _) _).trans (hb.mono (by simp)),by omega⟩
theorem Lv{w wr w1:World}{o:Obj}(r:wr.heap[w.heap.size]?=some o)(hb:Below w.heap.size w wr)(h1:Below wr.heap.size wr w1):w1.heap[w.heap.size]?=some o∧Below w.heap.size w w1:=
 ⟨(h1.block _ (lt_of_heap r)).trans r,hb.trans (h1.mono hb.size)⟩
theorem Kr{w w1 w2:World}{o:Obj}{row:Option Nat}(r:w1.heap[w.heap.size]?=some o)(hb:Below w.heap.size w w1)(hg:w1.grownBy w2 row)(hr:∀k,row=some k→w.heap.size+1≤k):w2.heap[w.heap.size]?=some o∧Below w.heap.size w w2:=by
 refine⟨?_,hb.grown hg hb.size (fun k hk=>by have:=hr k hk;omega)⟩
 rw[hg.block _ (lt_of_heap r) (fun e=>by have:=hr _ e.symm;omega)]
 exact r
theorem MK(w:World)(r:Ax.ay)(ad:Option Addr)(n c:Nat)(hB:ib w ad n c r.body)(h0:cw r.head.pred)(h1:cw r.head.a)(h2:cw r.head.b):
 Calls Tryz.prog 62 #[.agg #[.int .i64 r.head.pred,.int .i64 r.head.a,.int .i64 r.head.b,.slice ad n c]] w fun e w'=>∃d c',e=.returned (.slice d (Ax.eH r).length c')∧w'.ownsRow w.heap.size 3 1 (.slice d (Ax.eH r).length c') (Ax.eH r).length (aA (Ax.eH r))∧Below w.heap.size w w':=by
 have pS:=CO hB r.head.pred r.head.a r.head.b
 have LC:=hB.two
 have Ce:c≤9223372036854775807:=hB.max
 obtain⟨m,hm⟩:∃m,min n 2=m:=⟨_,rfl⟩
 have XY:m≤2:=by omega
 rw[hm]at pS LC
 clear hm hB
 have V4:=fun w=>qp w r.head h0 h1 h2
 have hgh:Ax.eH r=(Ax.bU r.head).map (fv ((Ax.jO r).flatMap Ax.bU)):=rfl
 have hT2:=kN r.head
 rw[hgh]
 clear hgh
 generalize Ax.jO r=gb at*
 generalize Ax.bU r.head=T at*
 rcases r with⟨⟨p,a,b⟩,bd⟩
 simp only at*
 clear h0 h1 h2 bd
 obtain⟨R,hR⟩:∃R,gb.flatMap Ax.bU=R:=⟨_,rfl⟩
 rw[hR]
 have HR:Hid (gb.flatMap Ax.bU=R):=hR
 clear hR
 rw[List.length_map]
 obtain⟨i0,hi,ew,dZ,dU⟩:=info_parts Tryz.Ed
 have HI:Hid (Tryz.prog.info? 3=some i0):=hi
 have ZC:Hid (i0.zero=some (.int .i64 0)):=ew
 have Xj:Hid (i0.size=1):=dZ
 have RX:Hid (i0.bytes=8):=dU
 clear hi ew dZ dU
 go_enter Tryz.func62,Tryz.ntmps62
 go_wp2_with (go_at_call 63;refine(pS _).mono ?_;rintro e w1 ⟨rfl,a8⟩)
 obtain⟨r1,bw1,sz1⟩:=sN a8
 clear a8
 go_loopw [3,5] (fun lv iv wr=>∃(i:Nat) (ld:Option Addr) (lc:Nat) (L:List Nat),i≤m∧lv=.slice ld L.length lc∧iv=.int .i64 i∧L.length≤2*i∧(gb.take i).flatMap Ax.bU=L∧wr.heap[w.heap.size]?=some (.cells #[.int .i64 p,.int .i64 a,.int .i64 b,.slice ad n c] 94 (0,0))∧Below w.heap.size w wr∧w.heap.size+1≤wr.heap.size∧wr.ownsRow (w.heap.size+1) 3 1 (.slice ld L.length lc) L.length (aA L)) (fun _ iv _=>m-(intOf iv).toNat)
 case atStart=>exact⟨0,none,0,[],Nat.zero_le _,rfl,rfl,Nat.zero_le _,rfl,r1,bw1,sz1,⟨by simp[aA],.inl ⟨rfl,rfl⟩⟩⟩
 case round=>
  obtain⟨i,ld,lc,L,hi,rfl,rfl,hL2,hL,Bg,aU,cE,al⟩:=hrel
  have HL:Hid ((gb.take i).flatMap Ax.bU=L):=hL
  clear hL r1 bw1 sz1
  have hbs:=aU.size
  by_cases aE:i<m
  · have hlen:=LC.len
    obtain⟨g,o,PL,ha⟩:=LC.at_ i (by omega)
    subst PL
    have ha:=ha.below aU
    have HN:Hid ((gb.take (i+1)).flatMap Ax.bU=L++Ax.bU gb[i]):=by
     show _=_
     rw[JD gb (by omega),HL.out]
    generalize gb[i]=x at*
    obtain⟨e0,e1,e2,f0,f1,f2⟩:=ha
    have UF:=fun w=>qp w x f0 f1 f2
    obtain⟨pQ,LF⟩:=kN x
    generalize Ax.bU x=X at*
    rcases x with⟨xp,xa,xb⟩
    simp only at e0 e1 e2 UF
    clear f0 f1 f2 LC pS V4 hlen
    go_wp2_with (first | (go_at_call 64;refine(UF _).mono ?_;rintro e w2 ⟨d2,c2,rfl,aR,cM⟩;obtain⟨g2,rfl,dM,uD,GV⟩:=aD aR pQ;have SL:=ae al cM;have acU:=cM.size) | (at_builtin;refine wpList_append_lies _ rfl (.tmp 23) (.tmp 24) 31 rfl (w.heap.size+1) 3 i0 _ 1 8 Tryz.underlying31 HI.out ZC.out Xj.out RX.out rfl (by decide) _ _ _ rfl SL ⟨g2,0,none⟩ X.length c2 (aA X) rfl (by rw[vt,Nat.mul_one]) (fun j u hu=>by rw[Addr.add_lit,Nat.zero_add];exact GV j u hu) (yV X) pQ (by unfold maxLen;omega) (by omega) (by omega) _ rfl ?_;intro g3 abx w3 fE gq _ XH))
    obtain⟨r2,bw2⟩:=Lv Bg aU cM
    obtain⟨r3,bw3⟩:=Kr r2 bw2 gq (fun k hk=>(SL.lt k hk).1)
    go_roundw
    case rel=>
     refine⟨i+1,some ⟨g3,0,none⟩,abx,L++X,by omega,by rw[List.length_append],by go_num,by rw[List.length_append];omega,HN.out,r3,bw3,by have:=gq.size;omega, ?_⟩
     rw[List.length_append,←vh]
     exact fE
    case measure=>simp[intOf];omega
  · obtain⟨wA,rfl⟩:∃x,x=wr:=⟨wr,rfl⟩
    have hlen:=LC.len
    have hLR:L=R:=by rw[←HL.out,←HR.out,List.take_of_length_le (by omega)]
    subst hLR
    clear HL HR LC pS
    have k0:=ab Bg 0
    have k1:=ab Bg 1
    have k2:=ab Bg 2
    have k3:=ab Bg 3
    simp only[List.getElem?_toArray,List.getElem?_cons_zero,List.getElem?_cons_succ]at k0 k1 k2 k3
    go_wp2_with (go_at_call 64;refine(V4 _).mono ?_;rintro e w2 ⟨d2,c2,rfl,aR,cM⟩;obtain⟨g2,rfl,dM,uD,GV⟩:=aD aR hT2.1;have acU:=cM.size)
    clear k0 k1 k2 k3 GV V4
    go_loopw [8] (fun iv wx=>∃(j:Nat),j≤T.length∧iv=.int .i64 j∧Below wA.heap.size wA wx∧wx.ownsRow wA.heap.size 3 1 (.slice (some ⟨g2,0,none⟩) T.length c2) T.length (aA (hx T L j))) (fun iv _=>T.length-(intOf iv).toNat)
    case atStart=>exact⟨0,Nat.zero_le _,rfl,cM,by rw[Qz];exact aR⟩
    case round=>
     obtain⟨j,hj,rfl,mZ,uL⟩:=hrel
     have ahR:=mZ.size
     by_cases E5:j<T.length
     · have e0:=World.ownsRow.cells uL (g:=g2) rfl j _ (Vv L E5)
       rw[Addr.add_lit,Nat.zero_add]at e0
       have fz:=uL.frozenAt j
       have dN:=U8 wr _ ld lc L (ae al mZ)
       have HK:Hid (fv L T[j]=T[j]→hx T L (j+1)=hx T L j):=QV L E5
       have HO:Hid (∀x:Nat,fv L T[j]=x→(wr.setCell ⟨g2,j,none⟩ (.int .i64 (x:Int))).ownsRow wA.heap.size 3 1 (.slice (some ⟨g2,0,none⟩) T.length c2) T.length (aA (hx T L (j+1)))):=fun x Ke=>Vi E5 Ke uL
       generalize T[j]=x at*
       have dN:=dN x
       by_cases Sr:x<3
       · have eA:decide ((x:Int)<3)=true:=by simp;omega
         by_cases hm:x∈L
         · have hd:decide (x∈L)=true:=by simpa using hm
           rw[hd]at dN
           have hf:fv L x=x:=by simp[fv,hm]
           have HE:=HK.out hf
           go_wp2_with (go_at_call 123;refine dN.mono ?_;rintro e w3 ⟨rfl,rfl⟩)
           go_roundw
           case rel=>exact⟨j+1,by omega,by go_num,mZ,by rw[HE];exact uL⟩
           case measure=>simp[intOf];omega
         · have hd:decide (x∈L)=false:=by simpa using hm
           rw[hd]at dN
           have hf:fv L x=x+3:=by simp[fv,hm,Sr]
           have HE:Hid _:=HO.out _ hf
           clear HK HO
           go_wp2_with (go_at_call 123;refine dN.mono ?_;rintro e w3 ⟨rfl,rfl⟩)
           go_roundw
           case rel=>
            refine⟨j+1,by omega,by go_num,mZ.setCell (p:=⟨g2,j,none⟩) (uL.lt g2 rfl).1 _, ?_⟩
            exact HE.out
           case measure=>simp[intOf];omega
       · have eA:decide ((x:Int)<3)=false:=by simp;omega
         have hf:fv L x=x:=by simp[fv,Sr]
         have HE:=HK.out hf
         generalize decide (x∈L)=B at dN
         go_wp2_with (go_at_call 123;refine dN.mono ?_;rintro e w3 ⟨rfl,rfl⟩)
         go_roundw
         case rel=>exact⟨j+1,by omega,by go_num,mZ,by rw[HE];exact uL⟩
         case measure=>simp[intOf];omega
     · have hjT:j=T.length:=by omega
       subst hjT
       rw[UA]at uL
       go_wp2_with fail
       go_ret
       exact⟨_,_,rfl,aG uL aU.size,aU.trans (mZ.mono aU.size)⟩
end
/- The blanks that Plain lays between the tokens. No program here. -/
namespace Ax
def cT(c:Int):List UInt8:=[32,32,10,32].take (bk c 4)
end Ax
/- What the search finds is what axiomkeep's least works out, and as often. No program here. -/
namespace En
open Ax (cf cr ij dG gM)
def b0:bO:=⟨(0,[0]),[(0,[0]),(1,[0,0])]⟩
def b1:bO:=⟨(0,[0]),[(0,[0]),(2,[0,0])]⟩
theorem Tg:tz b0 where
 head:=⟨⟨by decide,rfl⟩,by decide⟩
 body:=by
  intro b hb
  simp[b0]at hb
  rcases hb with rfl | rfl
  · exact⟨⟨by decide,rfl⟩,by decide⟩
  · exact⟨⟨by decide,rfl⟩,by decide⟩
 two:=by decide
 safe:=fun n hn _=>⟨(0,[0]),by simp[b0],hn⟩
theorem Sa:tz b1 where
 head:=⟨⟨by decide,rfl⟩,by decide⟩
 body:=by
  intro b hb
  simp[b1]at hb
  rcases hb with rfl | rfl
  · exact⟨⟨by decide,rfl⟩,by decide⟩
  · exact⟨⟨by decide,rfl⟩,by decide⟩
 two:=by decide
 safe:=fun n hn _=>⟨(0,[0]),by simp[b1],hn⟩
def eR(R:List bO):List bO:=b0::b1::R
def sR(R:List bO):List (eo cg):=(eR R).map fun r=>cU (cO r)
theorem zQ{R:List bO}(h:∀r,r∈R→tz r):∀r,r∈eR R→tz r:=by
 intro r hr
 rcases List.mem_cons.1 hr with rfl | hr
 · exact Tg
 · rcases List.mem_cons.1 hr with rfl | hr
   · exact Sa
   · exact h r hr
theorem xQ(r:bO):(cU (cO r)).k=r.body.length:=by simp[cU,cO]
theorem Bj{R:List bO}(h:∀r,r∈R→tz r):∀r,r∈sR R→r.k≤2:=by
 intro r hr
 obtain⟨q,hq,rfl⟩:=List.mem_map.1 hr
 rw[xQ]
 exact(zQ h q hq).two
theorem RE{R:List bO}{r:bO}(hr:tz r){H:Nat→Bool}{i:Nat}(hi:i∈fF r H):i<36:=by
 obtain⟨n,hn,rfl⟩:=List.mem_map.1 hi
 unfold EU at hn
 exact og (fun j _=>iT (iP.1 (List.mem_filter.1 hn).1).1 j) hr.head
theorem qX:∀(R:List bO),(∀r,r∈R→tz r)→∀(H:Nat→Bool) (i:Nat),36≤i→H i=false→di R H i=false
 | [],_,_,_,_,h=>h
 | r::R,hR,H,i,hi,h=>by
  show di R (iw H (fF r H)) i=false
  refine qX R (fun q hq=>hR q (by simp[hq])) _ i hi ?_
  simp only[iw,h,Bool.false_or,decide_eq_false_iff_not]
  intro hc
  have:=RE (R:=R) (hR r (by simp)) hc
  omega
def ak(R:List bO)(G:Nat→Bool):Nat→Bool:=rounds R 37 G
theorem Bf{R:List bO}(hR:∀r,r∈R→tz r){G:Nat→Bool}(hG:∀i,36≤i→G i=false):mS R (fun i=>ak R G i=true):=by
 intro r hr n hn hb
 have hs:=uz (qX R hR) 37 G hG (by omega)
 show rounds R 37 G _=true
 rw[←hs]
 refine rF R _ r hr _ (List.mem_map.2 ⟨n, ?_,rfl⟩)
 unfold EU
 rw[List.mem_filter,List.all_eq_true]
 exact⟨hn,hb⟩
theorem xf{R:List bO}(hR:∀r,r∈R→tz r){G:Nat→Bool}(hG:∀i,36≤i→G i=false):mS (eR R) (fun i=>ak R G i=true):=by
 intro r hr n hn hb
 rcases List.mem_cons.1 hr with rfl | hr
 · exact hb (0,[0]) (by simp[b0])
 · rcases List.mem_cons.1 hr with rfl | hr
   · exact hb (0,[0]) (by simp[b1])
   · exact Bf hR hG r hr n hn hb
def gF(G:Nat→Bool)(f:cg):Prop:=∃i,i<36∧G i=true∧f=uF i
def XF(X:Nat→Prop)(f:cg):Prop:=∃i,i<36∧X i∧f=uF i
theorem tF{E:List bO}(hE:∀r,r∈E→tz r){X:Nat→Prop}(hX:mS E X):BD (E.map fun r=>cU (cO r)) (XF X):=by
 intro r' zT fs hl L4 h hi
 obtain⟨r,hr,rfl⟩:=List.mem_map.1 zT
 have dD:=hE r hr
 have abf:∀f,f∈fs→Can f:=by
  intro f hf
  obtain⟨i,hi,_,rfl⟩:=L4 f hf
  exact Na hi
 obtain⟨n,hn,e⟩:=NP dD abf hi
 have TP:=(iP.1 hn).1
 have hv:∀j,j<3→pf n j<4:=fun j _=>iT TP j
 have hh:h=subst (pf n) r.head:=by
  have h1:gH (cO r) fs=some h:=hi
  rw[←e,rY dD TP]at h1
  exact(Option.some.inj h1).symm
 refine⟨FF (pf n) r.head,og hv dD.head, ?_,by rw[hh,tp hv dD.head]⟩
 apply hX r hr n hn
 intro b hb
 have hm:subst (pf n) b∈fs:=by rw[←e];exact List.mem_map.2 ⟨b,hb,rfl⟩
 obtain⟨i,Kw,hXi,ei⟩:=L4 _ hm
 rw[←tp hv (dD.body b hb)]at ei
 rw[tE (og hv (dD.body b hb)) Kw ei]
 exact hXi
theorem sV{R:List bO}(hR:∀r,r∈R→tz r){G:Nat→Bool}{s:dB cg}{n:Nat}(hs:Inv (sR R) (gF G) s n):∀f,f∈s.found→Can f:=by
 intro f hf
 have hX:mS (eR R) (fun i=>i<36):=fun r hr n hn _=>og (fun j _=>iT (iP.1 hn).1 j) (zQ hR r hr).head
 obtain⟨i,hi,_,rfl⟩:=hs.least (XF fun i=>i<36) (tF (zQ hR) hX) (fun f ⟨i,hi,_,e⟩=>⟨i,hi,hi,e⟩) f hf
 exact Na hi
theorem s7{R:List bO}(hR:∀r,r∈R→tz r){G:Nat→Bool}(hG:∀i,36≤i→G i=false){s:dB cg}(hs:Inv (sR R) (gF G) s s.found.length){i:Nat}(hi:i<36):uF i∈s.found↔ak R G i=true:=by
 constructor
 · intro hm
   obtain⟨j,hj,hX,e⟩:=hs.least (XF fun i=>ak R G i=true) (tF (zQ hR) (xf hR hG)) (fun f ⟨i,hi,hg,e⟩=>⟨i,hi,ua 37 G i hg,e⟩) _ hm
   rw[tE hi hj e]
   exact hX
 · intro hl
   refine qZ (R:=R) (X:=fun i=>i<36→uF i∈s.found) ?_ 37 G ?_ i hl hi
   · intro r hr n hn hb _
     have dD:=hR r hr
     have TP:=(iP.1 hn).1
     have hv:∀j,j<3→pf n j<4:=fun j _=>iT TP j
     have fY:cU (cO r)∈sR R:=List.mem_map.2 ⟨r,by simp[eR,hr],rfl⟩
     rw[tp hv dD.head]
     refine hs.done _ fY (GK r n) ?_ _ (rY dD TP)
     rw[List.take_length,xJ (Bj hR _ fY),xQ]
     refine⟨by simp[GK], ?_⟩
     intro f hf
     obtain⟨b,xg,rfl⟩:=List.mem_map.1 hf
     rw[←tp hv (dD.body b xg)]
     exact hb b xg (og hv (dD.body b xg))
   · intro j hj yP
     exact hs.given _ ⟨j,yP,hj,rfl⟩
def jG(l:List Nat)(i:Nat):Nat:=l.count i
theorem wX{α:Type}{f:α→Nat}:∀(l:List α),(∀x,x∈l→f x<36)→∀{i:Nat},i<36→gN (l.map fun x=>uF (f x)) (uF i)=jG (l.map f) i
 | [],_,_,_=>rfl
 | x::l,h,i,hi=>by
  have ih:=wX l (fun y hy=>h y (by simp[hy])) hi
  rw[List.map_cons,List.map_cons,DK,ih]
  unfold jG
  rw[List.count_cons]
  by_cases e:f x=i
  · subst e;simp
  · have e2:¬uF (f x)=uF i:=fun hc=>e (tE (h x (by simp)) hi hc)
    simp[e,e2]
theorem Rx{R:List bO}(hR:∀r,r∈R→tz r){G:Nat→Bool}(hG:∀i,36≤i→G i=false){s:dB cg}(hs:Inv (sR R) (gF G) s s.found.length){r:bO}(hr:tz r):PK r s.found=EU r (ak R G):=by
 unfold PK EU
 apply List.filter_congr
 intro n hn
 have TP:=(iP.1 hn).1
 have hv:∀j,j<3→pf n j<4:=fun j _=>iT TP j
 unfold GK
 rw[List.all_map]
 apply Bool.eq_iff_iff.2
 rw[List.all_eq_true,List.all_eq_true]
 have key:∀b,b∈r.body→(hasB s.found (subst (pf n) b)=true↔ak R G (FF (pf n) b)=true):=by
  intro b hb
  rw[yk,←tp hv (hr.body b hb)]
  exact s7 hR hG hs (og hv (hr.body b hb))
 constructor
 · intro h b hb
   exact(key b hb).1 (h b hb)
 · intro h b hb
   exact(key b hb).2 (h b hb)
theorem s6{R:List bO}(hR:∀r,r∈R→tz r){G:Nat→Bool}(hG:∀i,36≤i→G i=false){s:dB cg}(hs:Inv (sR R) (gF G) s s.found.length){r:bO}(hr:tz r){i:Nat}(hi:i<36):
 lC (cU (cO r)) (iz (cU (cO r)).k s.found) (uF i)=jG (fF r (ak R G)) i:=by
 rw[xQ,Vj hr hs.nodup (sV hR hs),Rx hR hG hs hr]
 have e:((EU r (ak R G)).map fun n=>subst (pf n) r.head)=(EU r (ak R G)).map fun n=>uF (FF (pf n) r.head):=by
  apply List.map_congr_left
  intro n hn
  unfold EU at hn
  exact(tp (fun j _=>iT (iP.1 (List.mem_filter.1 hn).1).1 j) hr.head).symm
 rw[e]
 exact wX _ (fun n hn=>by
  unfold EU at hn
  exact og (fun j _=>iT (iP.1 (List.mem_filter.1 hn).1).1 j) hr.head) hi
theorem Ez{R:List bO}(hR:∀r,r∈R→tz r){G:Nat→Bool}(hG:∀i,36≤i→G i=false){s:dB cg}(hs:Inv (sR R) (gF G) s s.found.length){i:Nat}(hi:i<36):
 s.count (uF i)=jG (fF b0 (ak R G)) i+(jG (fF b1 (ak R G)) i+(R.map fun r=>jG (fF r (ak R G)) i).sum):=by
 rw[hs.counts,List.take_length]
 unfold total sR eR
 simp only[List.map_cons,List.sum_cons,List.map_map]
 rw[s6 hR hG hs Tg hi,s6 hR hG hs Sa hi]
 congr 3
 apply List.map_congr_left
 intro r hr
 exact s6 hR hG hs (hR r hr) hi
theorem YY:vs b0=[0,1,2,3]:=by decide
theorem Xn:vs b1=[0,1,2,3]:=by decide
theorem four{n:Nat}(h:n∈[0,1,2,3]):n=0∨n=1∨n=2∨n=3:=by simpa using h
theorem Oh(H:Nat→Bool):fF b0 H=[0,1,2,3].filter fun x=>H x&&H (4+5*x):=by
 unfold fF EU
 rw[YY]
 have e1:([0,1,2,3].filter fun n=>b0.body.all fun b=>H (FF (pf n) b))=[0,1,2,3].filter fun x=>H x&&H (4+5*x):=by
  apply List.filter_congr
  intro n hn
  rcases four hn with rfl | rfl | rfl | rfl<;>simp[b0,FF,nr,A8,pf]
 rw[e1]
 have e2:∀n,n∈[0,1,2,3].filter (fun x=>H x&&H (4+5*x))→FF (pf n) b0.head=id n:=by
  intro n hn
  rcases four (List.mem_filter.1 hn).1 with rfl | rfl | rfl | rfl<;>rfl
 rw[List.map_congr_left e2,List.map_id]
theorem MF(H:Nat→Bool):fF b1 H=[0,1,2,3].filter fun x=>H x&&H (20+5*x):=by
 unfold fF EU
 rw[Xn]
 have e1:([0,1,2,3].filter fun n=>b1.body.all fun b=>H (FF (pf n) b))=[0,1,2,3].filter fun x=>H x&&H (20+5*x):=by
  apply List.filter_congr
  intro n hn
  rcases four hn with rfl | rfl | rfl | rfl<;>simp[b1,FF,nr,A8,pf]
 rw[e1]
 have e2:∀n,n∈[0,1,2,3].filter (fun x=>H x&&H (20+5*x))→FF (pf n) b1.head=id n:=by
  intro n hn
  rcases four (List.mem_filter.1 hn).1 with rfl | rfl | rfl | rfl<;>rfl
 rw[List.map_congr_left e2,List.map_id]
theorem xK(p:Nat→Bool)(i:Nat):jG ([0,1,2,3].filter p) i=if i<4∧p i=true then 1 else 0:=by
 unfold jG
 by_cases hp:p i=true
 · rw[List.count_filter hp]
   by_cases hi:i<4
   · rw[if_pos ⟨hi,hp⟩]
     have:i=0∨i=1∨i=2∨i=3:=by omega
     rcases this with rfl | rfl | rfl | rfl<;>rfl
   · rw[if_neg (fun h=>hi h.1)]
     rw[List.count_eq_zero]
     simp
     omega
 · rw[if_neg (fun h=>hp h.2),List.count_eq_zero]
   intro hc
   exact hp (List.mem_filter.1 hc).2
theorem BO{R:List bO}(hR:∀r,r∈R→tz r){G:Nat→Bool}(hG:∀i,36≤i→G i=false){s:dB cg}(hs:Inv (sR R) (gF G) s s.found.length){i:Nat}(hi:i<36):
 s.count (uF i)=(if i<4∧(ak R G i&&ak R G (4+5*i))=true then 1 else 0)+((if i<4∧(ak R G i&&ak R G (20+5*i))=true then 1 else 0)+(R.map fun r=>jG (fF r (ak R G)) i).sum):=by
 rw[Ez hR hG hs hi,Oh,MF,xK,xK]
theorem Eh{R:List bO}(hR:∀r,r∈R→tz r){G:Nat→Bool}{s:dB cg}(hs:Inv (sR R) (gF G) s 0)(fuel:Nat)(hf:200<fuel):∃s',search (sR R) 200 fuel 0 s=some s':=by
 have hX:mS (eR R) (fun i=>i<36):=fun r hr n hn _=>og (fun j _=>iT (iP.1 hn).1 j) (zQ hR r hr).head
 have hU:∀f,f∈(List.range 36).map uF↔XF (fun i=>i<36) f:=by
  intro f
  rw[List.mem_map]
  constructor
  · rintro⟨i,hi,rfl⟩
    exact⟨i,by simpa using hi,by simpa using hi,rfl⟩
  · rintro⟨i,hi,_,rfl⟩
    exact⟨i,by simpa using hi,rfl⟩
 have hc:BD (sR R) (· ∈(List.range 36).map uF):=by
  intro r hr fs hl L4 h hi
  exact(hU h).2 (tF (zQ hR) hX r hr fs hl (fun f hf=>(hU f).1 (L4 f hf)) h hi)
 exact uR (Bj hR) ((List.range 36).map uF) (by simp) hc (fun f ⟨i,hi,_,e⟩=>(hU f).2 ⟨i,hi,hi,e⟩) fuel 0 s hs (Nat.zero_le _) (by omega)
end En
end Go.Proofs.YtdmicblafmhflaaGreatDoor
