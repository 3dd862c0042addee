/- axiomkeep: body. -/
import Derived.Test.YtdmicblafmhflaaGreatDoorC09
import Derived.Deep.AppendLies
import Derived.Test.YtdmicblafmhflaaGreatDoorC03
set_option linter.unusedSimpArgs false
set_option linter.unusedVariables false
set_option maxHeartbeats 4000000
set_option maxRecDepth 100000
namespace Go.Proofs.YtdmicblafmhflaaGreatDoor
section
open Go.RowKit
theorem LI(w:World)(p a b:Int)(ad:Addr)(n c:Nat)(hn:n≤c)(hc:c≤maxLen):Calls Tryz.prog 63 #[.agg #[.int .i64 p,.int .i64 a,.int .i64 b,.slice (some ad) n c]] w fun e w'=>e=.returned (.slice (some ad) (min n 2) c)∧Below w.heap.size w w':=by
 have hm:maxLen=9223372036854775807:=rfl
 by_cases h2:2<n
 · have hb:decide ((2:Int)<(n:Int))=true:=by simp;omega
   rw[Nat.min_eq_right (by omega)]
   go_enter Tryz.func63,Tryz.ntmps63
   go_wp2_with fail
   go_ret
   exact⟨rfl,(Below.refl _ _).alloc (Nat.le_refl _) _⟩
 · have hb:decide ((2:Int)<(n:Int))=false:=by simp;omega
   rw[Nat.min_eq_left (by omega)]
   go_enter Tryz.func63,Tryz.ntmps63
   go_wp2_with fail
   go_ret
   exact⟨rfl,(Below.refl _ _).alloc (Nat.le_refl _) _⟩
theorem JS(w:World)(p a b:Int)(c:Nat):Calls Tryz.prog 63 #[.agg #[.int .i64 p,.int .i64 a,.int .i64 b,.slice none 0 c]] w fun e w'=>e=.returned (.slice none 0 c)∧Below w.heap.size w w':=by
 go_enter Tryz.func63,Tryz.ntmps63
 go_wp2_with fail
 go_ret
 exact⟨rfl,(Below.refl _ _).alloc (Nat.le_refl _) _⟩
end
/- axiomkeep: what text writes, as tokens. No program here. -/
section
def uz(p:Nat)(ts:List Nat):ByteArray:=lH ts 0 (Ax.cp p++⟨#[40]⟩)++⟨#[41]⟩
def wA(b:Ax.eo):ByteArray:=uz (Ax.aT b.pred 3) (Ax.a8 b)
def ko:List Ax.eo→Nat→ByteArray→ByteArray
 | [],_,s=>s
 | b::l,k,s=>ko l (k+1) ((if k=0 then s++⟨#[58,45]⟩else s++⟨#[44]⟩)++wA b)
def zW(r:Ax.aA)(s:ByteArray):ByteArray:=ko (Ax.bG r) 0 (s++uz (Ax.aT r.head.pred 3) (Ax.di r))++⟨#[46]⟩
def kt:List Ax.aA→ByteArray→ByteArray
 | [],s=>s
 | r::l,s=>kt l (zW r s)
theorem Ah(a:Ax.eo):Ax.a8 a≠[]:=by unfold Ax.a8;split<;>simp
theorem Oj(r:Ax.aA):Ax.di r≠[]:=by
 unfold Ax.di
 intro h
 exact Ah r.head (List.map_eq_nil_iff.1 h)
theorem C3(b:Ax.eo):(wA b).data.toList=dE (Ax.dC (Ax.jM (Ax.aT b.pred 3) (Ax.a8 b))):=pP _ _ (Ah b)
def Va(b:Ax.eo):Ax.EA:=Ax.jM (Ax.aT b.pred 3) (Ax.a8 b)
theorem C7:∀(l:List Ax.eo) (k:Nat) (s:ByteArray),0<k→(ko l k s).data.toList=s.data.toList++l.flatMap fun b=>44::dE (Ax.dC (Va b))
 | [],_,s,_=>by simp[ko]
 | b::l,k,s,h=>by
  rw[ko,C7 l (k+1) _ (by omega),if_neg (by omega)]
  simp only[ByteArray.data_append,Array.toList_append,C3]
  simp[Va]
theorem sf:∀(l:List Ax.eo) (b:Ax.eo),dE (Ax.dG ((b::l).map Va))=dE (Ax.dC (Va b))++l.flatMap fun b=>44::dE (Ax.dC (Va b))
 | [],b=>by simp[Ax.dG]
 | c::l,b=>by
  have ih:=sf l c
  rw[List.map_cons]at ih
  rw[List.map_cons,List.map_cons,Ax.dG,ga,gN,ih]
  simp[Ax.lI]
theorem CI(r:Ax.aA)(s:ByteArray):(zW r s).data.toList=s.data.toList++dE (Ax.fg (Ax.Ls r)):=by
 have hb:(Ax.Ls r).2=(Ax.bG r).map Va:=rfl
 have hh:(Ax.Ls r).1=Ax.jM (Ax.aT r.head.pred 3) (Ax.di r):=rfl
 have hw:(uz (Ax.aT r.head.pred 3) (Ax.di r)).data.toList=dE (Ax.dC (Ax.Ls r).1):=by rw[hh];exact pP _ _ (Oj r)
 unfold zW Ax.fg
 rw[hb]
 cases Ax.bG r with
 | nil=>simp[ko,ByteArray.data_append,hw,ga,dE]
 | cons b l=>
  rw[ko,if_pos rfl,ByteArray.data_append,Array.toList_append,C7 l 1 _ (by omega)]
  simp only[ByteArray.data_append,Array.toList_append,hw,C3]
  rw[if_neg (by simp),ga,ga,gN,sf]
  simp[dE,Va]
theorem rO:∀(l:List Ax.aA) (s:ByteArray),(kt l s).data.toList=s.data.toList++dE (Ax.bA (l.map Ax.Ls))
 | [],s=>by simp[kt,Ax.bA,dE]
 | r::l,s=>by
  rw[kt,rO l,CI,List.map_cons]
  simp[Ax.bA,dE]
def vL:ByteArray:=⟨(dE (Ax.bA Ax.nO)).toArray⟩
theorem MI:vL=⟨#[110,40,88,41,58,45,110,40,88,41,44,101,40,88,44,88,41,46,110,40,88,41,58,45,110,40,88,41,44,112,195,188,40,88,44,88,41,46]⟩:=by rfl
theorem FC(l:List Ax.aA):kt (l.take 6) vL=Ax.aC l:=by
 have h:=rO (l.take 6) vL
 have e:(kt (l.take 6) vL).data.toList=(Ax.aC l).data.toList:=by
  rw[h]
  simp[vL,Ax.aC,Ax.gR,Ax.bA,dE]
 cases h1:kt (l.take 6) vL with | mk x=>
 cases h2:Ax.aC l with | mk y=>
 rw[h1,h2]at e
 simp at e
 rw[e]
end
/- axiomkeep: head. -/
section
open Go.RowKit
theorem Tryz.xH:(Tryz.prog.info? 3).map (fun i=>(i.zero,i.size,i.bytes))=some (some (.int .i64 0),1,8):=by kernel_rfl
structure s7(w:World)(g o:Nat)(a:Ax.eo):Prop where
 c0:w.cell? ⟨g,o,none⟩=some (.int .i64 a.pred)
 c1:w.cell? ⟨g,o+1,none⟩=some (.int .i64 a.a)
 c2:w.cell? ⟨g,o+2,none⟩=some (.int .i64 a.b)
 f0:cn a.pred
 f1:cn a.a
 f2:cn a.b
structure fo(w:World)(ad:Option Addr)(n c:Nat)(l:List Ax.eo):Prop where
 len:l.length=n
 cap:n≤c
 max:c≤maxLen
 none_:ad=none→n=0
 at_:∀k (h:k<l.length),∃g o,ad=some ⟨g,o,none⟩∧s7 w g (o+k*3) l[k]
theorem bl{w w':World}(hb:Below w.heap.size w w'){p:Addr}{v:Value}(h:w.cell? p=some v):w'.cell? p=some v:=by
 rw[hb.cell (World.block_lt_of_cell? _ _ h),h]
theorem s7.below{w w':World}{g o:Nat}{a:Ax.eo}(h:s7 w g o a)(hb:Below w.heap.size w w'):s7 w' g o a:=
 ⟨bl hb h.c0,bl hb h.c1,bl hb h.c2,h.f0,h.f1,h.f2⟩
theorem fo.below{w w':World}{ad:Option Addr}{n c:Nat}{l:List Ax.eo}(h:fo w ad n c l)(hb:Below w.heap.size w w'):fo w' ad n c l:=
 ⟨h.len,h.cap,h.max,h.none_,fun k hk=>let ⟨g,o,e,ha⟩:=h.at_ k hk;⟨g,o,e,ha.below hb⟩⟩
theorem fo.two{w:World}{ad:Option Addr}{n c:Nat}{r:Ax.aA}(h:fo w ad n c r.body):fo w ad (min n 2) c (Ax.bG r):=by
 refine⟨?_, ?_,h.max, ?_, ?_⟩
 · unfold Ax.bG;rw[List.length_take,h.len];omega
 · have:=h.cap;omega
 · intro e;have:=h.none_ e;omega
 · intro k hk
   unfold Ax.bG at hk ⊢
   rw[List.length_take]at hk
   obtain⟨g,o,e,ha⟩:=h.at_ k (by omega)
   exact⟨g,o,e,by rw[List.getElem_take];exact ha⟩
theorem sF{w:World}{ad:Option Addr}{n c:Nat}{l:List Ax.eo}(h:fo w ad n c l)(p a b:Int):∀w1,Calls Tryz.prog 63 #[.agg #[.int .i64 p,.int .i64 a,.int .i64 b,.slice ad n c]] w1 fun e w'=>e=.returned (.slice ad (min n 2) c)∧Below w1.heap.size w1 w':=by
 intro w1
 cases ad with
 | none=>
  have hn:=h.none_ rfl
  subst hn
  exact JS w1 p a b c
 | some ad=>exact LI w1 p a b ad n c h.cap h.max
def fv(L:List Nat)(h:Nat):Nat:=if h<3∧¬h∈L then h+3 else h
def hx(T L:List Nat)(i:Nat):List Nat:=(T.take i).map (fv L)++T.drop i
theorem JD(T L:List Nat)(i:Nat):(hx T L i).length=T.length:=by simp[hx];omega
theorem Rt(T L:List Nat):hx T L 0=T:=by simp[hx]
theorem SU(T L:List Nat):hx T L T.length=T.map (fv L):=by simp[hx]
theorem S4{T:List Nat}(L:List Nat){i:Nat}(h:i<T.length):(an (hx T L i))[i]?=some (.int .i64 T[i]):=by
 have e:(hx T L i)[i]?=some T[i]:=by
  unfold hx
  rw[List.getElem?_append_right (by simp;omega)]
  simp[Nat.min_eq_left (Nat.le_of_lt h)]
 simp[an,e]
theorem GZ{T:List Nat}(L:List Nat){i:Nat}(h:i<T.length):(hx T L i).set i (fv L T[i])=hx T L (i+1):=by
 unfold hx
 rw[List.drop_eq_getElem_cons h,List.take_succ_eq_append_getElem h]
 have hl:((T.take i).map (fv L)).length=i:=by simp;omega
 rw[List.set_append_right _ _ (by omega),hl,Nat.sub_self,List.set_cons_zero,List.map_append,List.map_cons,List.map_nil,List.append_assoc]
 rfl
theorem Qr{T:List Nat}(L:List Nat){i:Nat}(h:i<T.length)(e:fv L T[i]=T[i]):hx T L (i+1)=hx T L i:=by
 rw[←GZ L h,e]
 have e1:(hx T L i)[i]?=some T[i]:=by
  unfold hx
  rw[List.getElem?_append_right (by simp;omega)]
  simp[Nat.min_eq_left (Nat.le_of_lt h)]
 apply List.ext_getElem?
 intro k
 by_cases hk:i=k
 · subst hk
   rw[List.getElem?_set_self (by rw[JD];exact h),e1]
 · rw[List.getElem?_set_ne hk]
theorem B5(l:List Nat)(i x:Nat):(an l).set i (.int .i64 (x:Int))=an (l.set i x):=by
 simp[an,List.map_set]
theorem B9{w:World}{b:Nat}{e:TypeId}{size g n cap:Nat}{xs:List Value}(h:w.ownsRow b e size (.slice (some ⟨g,0,none⟩) n cap) n xs)(j:Nat)(v:Value):
 (w.setCell ⟨g,j,none⟩ v).ownsRow b e size (.slice (some ⟨g,0,none⟩) n cap) n (xs.set j v):=by
 refine⟨by rw[List.length_set];exact h.1, ?_⟩
 rcases h.2 with⟨e1,_⟩ | ⟨g',E4,cur,hv,hg,hh,h1,h2,h3,h4⟩
 · simp at e1
 · simp only[Value.slice.injEq,Option.some.injEq,Addr.mk.injEq]at hv
   obtain⟨⟨rfl,_⟩,_,rfl⟩:=hv
   refine .inr ⟨g,cap,cur.setIfInBounds j v,rfl,hg,heap_setCell_same hh v,h1,h2,by simpa using h3, ?_⟩
   rw[Array.toList_setIfInBounds,List.take_set,h4]
theorem Tn{w:World}{b g n cap:Nat}{T L:List Nat}{i:Nat}(hi:i<T.length){x:Nat}(Fy:fv L T[i]=x)(h:w.ownsRow b 3 1 (.slice (some ⟨g,0,none⟩) n cap) n (an (hx T L i))):
 (w.setCell ⟨g,i,none⟩ (.int .i64 (x:Int))).ownsRow b 3 1 (.slice (some ⟨g,0,none⟩) n cap) n (an (hx T L (i+1))):=by
 have:=B9 h i (.int .i64 (x:Int))
 rw[B5,←Fy,GZ L hi]at this
 rw[←Fy]
 exact this
theorem uZ(l m:List Nat):an l++an m=an (l++m):=by simp[an]
theorem uM(l:List Nat):(an l).length=l.length:=by simp[an]
theorem yF(l:List Nat):∀u,u∈an l→u.oneCell'=true:=by
 intro u hu
 obtain⟨n,_,rfl⟩:=List.mem_map.1 hu
 rfl
theorem Js(gb:List Ax.eo){i:Nat}(h:i<gb.length):(gb.take (i+1)).flatMap Ax.a8=(gb.take i).flatMap Ax.a8++Ax.a8 gb[i]:=by
 rw[List.take_succ_eq_append_getElem h,List.flatMap_append,List.flatMap_cons,List.flatMap_nil,List.append_nil]
theorem kU(a:Ax.eo):0<(Ax.a8 a).length∧(Ax.a8 a).length≤2:=by
 unfold Ax.a8
 split<;>simp
end
/- axiomkeep: head, walked. -/
section
open Go.RowKit
theorem tJ{w w1:World}{o:Obj}(hb:Below (w.alloc o).heap.size (w.alloc o) w1):w1.heap[w.heap.size]?=some o∧Below w.heap.size w w1∧w.heap.size+1≤w1.heap.size:=by
 have hs:=hb.size
 simp only[World.size_alloc]at hs
 exact⟨(hb.block _ (by simp)).trans (heap_alloc_new _ _),((Below.refl _ _).alloc (Nat.le_refl _) _).trans (hb.mono (by simp)),by omega⟩
theorem I2{w wr w1:World}{o:Obj}(r:wr.heap[w.heap.size]?=some o)(hb:Below w.heap.size w wr)(h1:Below wr.heap.size wr w1):w1.heap[w.heap.size]?=some o∧Below w.heap.size w w1:=
 ⟨(h1.block _ (lt_of_heap r)).trans r,hb.trans (h1.mono hb.size)⟩
theorem An{w w1 w2:World}{o:Obj}{row:Option Nat}(r:w1.heap[w.heap.size]?=some o)(hb:Below w.heap.size w w1)(hg:w1.grownBy w2 row)(hr:∀k,row=some k→w.heap.size+1≤k):w2.heap[w.heap.size]?=some o∧Below w.heap.size w w2:=by
 refine⟨?_,hb.grown hg hb.size (fun k hk=>by have:=hr k hk;omega)⟩
 rw[hg.block _ (lt_of_heap r) (fun e=>by have:=hr _ e.symm;omega)]
 exact r
theorem Ej(w:World)(r:Ax.aA)(ad:Option Addr)(n c:Nat)(hB:fo w ad n c r.body)(h0:cn r.head.pred)(h1:cn r.head.a)(h2:cn r.head.b):
 Calls Tryz.prog 62 #[.agg #[.int .i64 r.head.pred,.int .i64 r.head.a,.int .i64 r.head.b,.slice ad n c]] w fun e w'=>∃d c',e=.returned (.slice d (Ax.di r).length c')∧w'.ownsRow w.heap.size 3 1 (.slice d (Ax.di r).length c') (Ax.di r).length (an (Ax.di r))∧Below w.heap.size w w':=by
 have pY:=sF hB r.head.pred r.head.a r.head.b
 have Ll:=hB.two
 have yG:c≤9223372036854775807:=hB.max
 obtain⟨m,hm⟩:∃m,min n 2=m:=⟨_,rfl⟩
 have X9:m≤2:=by omega
 rw[hm]at pY Ll
 clear hm hB
 have Wp:=fun w=>kG w r.head h0 h1 h2
 have hgh:Ax.di r=(Ax.a8 r.head).map (fv ((Ax.bG r).flatMap Ax.a8)):=rfl
 have hT2:=kU r.head
 rw[hgh]
 clear hgh
 generalize Ax.bG r=gb at*
 generalize Ax.a8 r.head=T at*
 rcases r with⟨⟨p,a,b⟩,bd⟩
 simp only at*
 clear h0 h1 h2 bd
 obtain⟨R,hR⟩:∃R,gb.flatMap Ax.a8=R:=⟨_,rfl⟩
 rw[hR]
 have HR:Hid (gb.flatMap Ax.a8=R):=hR
 clear hR
 rw[List.length_map]
 obtain⟨i0,hi,ew,ev,dY⟩:=info_parts Tryz.xH
 have HI:Hid (Tryz.prog.info? 3=some i0):=hi
 have Z5:Hid (i0.zero=some (.int .i64 0)):=ew
 have Xx:Hid (i0.size=1):=ev
 have Wc:Hid (i0.bytes=8):=dY
 clear hi ew ev dY
 go_enter Tryz.func62,Tryz.ntmps62
 go_wp2_with (go_at_call 63;refine(pY _).mono ?_;rintro e w1 ⟨rfl,bq⟩)
 obtain⟨r1,bw1,sz1⟩:=tJ bq
 clear bq
 go_loopw [3,5] (fun lv iv wr=>∃(i:Nat) (ld:Option Addr) (lc:Nat) (L:List Nat),i≤m∧lv=.slice ld L.length lc∧iv=.int .i64 i∧L.length≤2*i∧(gb.take i).flatMap Ax.a8=L∧wr.heap[w.heap.size]?=some (.cells #[.int .i64 p,.int .i64 a,.int .i64 b,.slice ad n c] 94 (0,0))∧Below w.heap.size w wr∧w.heap.size+1≤wr.heap.size∧wr.ownsRow (w.heap.size+1) 3 1 (.slice ld L.length lc) L.length (an L)) (fun _ iv _=>m-(intOf iv).toNat)
 case atStart=>exact⟨0,none,0,[],Nat.zero_le _,rfl,rfl,Nat.zero_le _,rfl,r1,bw1,sz1,⟨by simp[an],.inl ⟨rfl,rfl⟩⟩⟩
 case round=>
  obtain⟨i,ld,lc,L,hi,rfl,rfl,hL2,hL,Bw,aV,cR,au⟩:=hrel
  have HL:Hid ((gb.take i).flatMap Ax.a8=L):=hL
  clear hL r1 bw1 sz1
  have hbs:=aV.size
  by_cases aG:i<m
  · have hlen:=Ll.len
    obtain⟨g,o,AK,ha⟩:=Ll.at_ i (by omega)
    subst AK
    have ha:=ha.below aV
    have HN:Hid ((gb.take (i+1)).flatMap Ax.a8=L++Ax.a8 gb[i]):=by
     show _=_
     rw[Js gb (by omega),HL.out]
    generalize gb[i]=x at*
    obtain⟨e0,e1,e2,f0,f1,f2⟩:=ha
    have Vh:=fun w=>kG w x f0 f1 f2
    obtain⟨lS,Ck⟩:=kU x
    generalize Ax.a8 x=X at*
    rcases x with⟨xp,xa,xb⟩
    simp only at e0 e1 e2 Vh
    clear f0 f1 f2 Ll pY Wp hlen
    go_wp2_with (first | (go_at_call 64;refine(Vh _).mono ?_;rintro e w2 ⟨d2,c2,rfl,aP,cw⟩;obtain⟨g2,rfl,eE,qD,uP⟩:=aD aP lS;have RS:=ah au cw;have acg:=cw.size) | (at_builtin;refine wpList_append_lies _ rfl (.tmp 23) (.tmp 24) 31 rfl (w.heap.size+1) 3 i0 _ 1 8 Tryz.underlying31 HI.out Z5.out Xx.out Wc.out rfl (by decide) _ _ _ rfl RS ⟨g2,0,none⟩ X.length c2 (an X) rfl (by rw[uM,Nat.mul_one]) (fun j u hu=>by rw[Addr.add_lit,Nat.zero_add];exact uP j u hu) (yF X) lS (by unfold maxLen;omega) (by omega) (by omega) _ rfl ?_;intro g3 aa0 w3 fF gG _ W7))
    obtain⟨r2,bw2⟩:=I2 Bw aV cw
    obtain⟨r3,bw3⟩:=An r2 bw2 gG (fun k hk=>(RS.lt k hk).1)
    go_roundw
    case rel=>
     refine⟨i+1,some ⟨g3,0,none⟩,aa0,L++X,by omega,by rw[List.length_append],by go_num,by rw[List.length_append];omega,HN.out,r3,bw3,by have:=gG.size;omega, ?_⟩
     rw[List.length_append,←uZ]
     exact fF
    case measure=>simp[intOf];omega
  · obtain⟨wA,rfl⟩:∃x,x=wr:=⟨wr,rfl⟩
    have hlen:=Ll.len
    have hLR:L=R:=by rw[←HL.out,←HR.out,List.take_of_length_le (by omega)]
    subst hLR
    clear HL HR Ll pY
    have k0:=ag Bw 0
    have k1:=ag Bw 1
    have k2:=ag Bw 2
    have k3:=ag Bw 3
    simp only[List.getElem?_toArray,List.getElem?_cons_zero,List.getElem?_cons_succ]at k0 k1 k2 k3
    go_wp2_with (go_at_call 64;refine(Wp _).mono ?_;rintro e w2 ⟨d2,c2,rfl,aP,cw⟩;obtain⟨g2,rfl,eE,qD,uP⟩:=aD aP hT2.1;have acg:=cw.size)
    clear k0 k1 k2 k3 uP Wp
    go_loopw [8] (fun iv wx=>∃(j:Nat),j≤T.length∧iv=.int .i64 j∧Below wA.heap.size wA wx∧wx.ownsRow wA.heap.size 3 1 (.slice (some ⟨g2,0,none⟩) T.length c2) T.length (an (hx T L j))) (fun iv _=>T.length-(intOf iv).toNat)
    case atStart=>exact⟨0,Nat.zero_le _,rfl,cw,by rw[Rt];exact aP⟩
    case round=>
     obtain⟨j,hj,rfl,lC,uE⟩:=hrel
     have ahG:=lC.size
     by_cases Hw:j<T.length
     · have e0:=World.ownsRow.cells uE (g:=g2) rfl j _ (S4 L Hw)
       rw[Addr.add_lit,Nat.zero_add]at e0
       have fz:=uE.frozenAt j
       have dS:=F9 wr _ ld lc L (ah au lC)
       have HK:Hid (fv L T[j]=T[j]→hx T L (j+1)=hx T L j):=Qr L Hw
       have HO:Hid (∀x:Nat,fv L T[j]=x→(wr.setCell ⟨g2,j,none⟩ (.int .i64 (x:Int))).ownsRow wA.heap.size 3 1 (.slice (some ⟨g2,0,none⟩) T.length c2) T.length (an (hx T L (j+1)))):=fun x Fy=>Tn Hw Fy uE
       generalize T[j]=x at*
       have dS:=dS x
       by_cases D9:x<3
       · have fH:decide ((x:Int)<3)=true:=by simp;omega
         by_cases hm:x∈L
         · have hd:decide (x∈L)=true:=by simpa using hm
           rw[hd]at dS
           have hf:fv L x=x:=by simp[fv,hm]
           have HE:=HK.out hf
           go_wp2_with (go_at_call 123;refine dS.mono ?_;rintro e w3 ⟨rfl,rfl⟩)
           go_roundw
           case rel=>exact⟨j+1,by omega,by go_num,lC,by rw[HE];exact uE⟩
           case measure=>simp[intOf];omega
         · have hd:decide (x∈L)=false:=by simpa using hm
           rw[hd]at dS
           have hf:fv L x=x+3:=by simp[fv,hm,D9]
           have HE:Hid _:=HO.out _ hf
           clear HK HO
           go_wp2_with (go_at_call 123;refine dS.mono ?_;rintro e w3 ⟨rfl,rfl⟩)
           go_roundw
           case rel=>
            refine⟨j+1,by omega,by go_num,lC.setCell (p:=⟨g2,j,none⟩) (uE.lt g2 rfl).1 _, ?_⟩
            exact HE.out
           case measure=>simp[intOf];omega
       · have fH:decide ((x:Int)<3)=false:=by simp;omega
         have hf:fv L x=x:=by simp[fv,D9]
         have HE:=HK.out hf
         generalize decide (x∈L)=B at dS
         go_wp2_with (go_at_call 123;refine dS.mono ?_;rintro e w3 ⟨rfl,rfl⟩)
         go_roundw
         case rel=>exact⟨j+1,by omega,by go_num,lC,by rw[HE];exact uE⟩
         case measure=>simp[intOf];omega
     · have hjT:j=T.length:=by omega
       subst hjT
       rw[SU]at uE
       go_wp2_with fail
       go_ret
       exact⟨_,_,rfl,aE uE aV.size,aV.trans (lC.mono aV.size)⟩
end
/- axiomkeep.at. -/
section
open Go.RowKit
theorem oh(l:List Nat)(k:Nat)(h:k<l.length):(an l)[k]?=some (.int .i64 (l[k]:Nat)):=by simp[an,h]
theorem pW(l:List Nat)(n:Nat):an (l++[n])=an l++[.int .i64 (n:Nat)]:=by simp[an]
theorem UE(w:World)(c:Int)(hc:cn c)(ts:List Nat)(v:Nat→Nat)(tv vv:Value)(ht:w.ownsRow 0 3 1 tv ts.length (an ts))(hv:w.ownsRow 0 3 1 vv 3 (an [v 0,v 1,v 2]))(hl:ts.length=if Ax.aT c 3=0 then 1 else 2)(Wh:∀x,x∈ts→x<7)(LC:∀i,i<3→v i<4):
 Calls Tryz.prog 67 #[.int .i64 c,tv,vv] w fun e w'=>e=.returned (.int .i64 (En.qM v (Ax.aT c 3,ts):Nat))∧Below w.heap.size w w':=by
 obtain⟨td,tc,rfl⟩:=aj ht
 obtain⟨vd,vc,rfl⟩:=aj hv
 obtain⟨i0,hi,ew,ev,dY⟩:=info_parts Tryz.xH
 have hlen:ts.length≤2:=by split at hl<;>omega
 have HT:Hid (w.ownsRow 0 3 1 (.slice td ts.length tc) ts.length (an ts)):=ht
 have HV:Hid (w.ownsRow 0 3 1 (.slice vd 3 vc) 3 (an [v 0,v 1,v 2])):=hv
 have HTS:Hid (∀x,x∈ts→x<7):=Wh
 have HVS:Hid (∀i,i<3→v i<4):=LC
 have ED:=fun w=>mB c 3 w hc (by decide) (by decide)
 have sP:Hid (∀W a,W.ownsRow w.heap.size 3 1 a ts.length (an (ts.map (En.mM v)))→Calls Tryz.prog 125 #[.int .i64 (Ax.aT c 3:Nat),a] W fun e w'=>e=.returned (.int .i64 (En.qM v (Ax.aT c 3,ts):Nat))∧Below W.heap.size W w'):=by
  intro W a ha
  have e:ts.length=(ts.map (En.mM v)).length:=by simp
  rw[e]at ha
  refine Jv W _ (Ax.aT c 3) (ts.map (En.mM v)) a ha (Ax.eJ c 3 (by decide)) (by rw[←e];exact hl) ?_
  intro x hx
  obtain⟨y,hy,rfl⟩:=List.mem_map.1 hx
  have:=HTS.out y hy
  unfold En.mM
  split
  · exact HVS.out _ (by omega)
  · omega
 generalize Ax.aT c 3=P at ED sP ⊢
 generalize En.qM v (P,ts)=R at sP ⊢
 clear ht hv Wh LC hl
 go_enter Tryz.func67,Tryz.ntmps67
 go_wp2_with fail
 go_loopw [7,8] (fun a i wr=>∃(k:Nat),k≤ts.length∧i=.int .i64 k∧wr.ownsRow w.heap.size 3 1 a k (an ((ts.take k).map (En.mM v)))∧Below w.heap.size w wr) (fun _ i _=>ts.length-(intOf i).toNat)
 case atStart=>exact⟨0,Nat.zero_le _,rfl,by simpa [an]using World.ownsRow_nil _ _ _ _,Below.refl _ _⟩
 case round=>
  obtain⟨k,hk,rfl,au,hb⟩:=hrel
  obtain⟨ad,ac,rfl⟩:=aj au
  have MM:Hid (wr.ownsRow w.heap.size 3 1 (.slice ad k ac) k (an ((ts.take k).map (En.mM v)))):=au
  have HB:Hid (Below w.heap.size w wr):=hb
  by_cases aG:k<ts.length
  · have bF:=ah HT.out hb
    obtain⟨g,rfl,hg,Lp,br⟩:=aD bF (by omega)
    have ca:=br k _ (oh ts k aG)
    have hx7:ts[k]<7:=HTS.out _ (List.getElem_mem aG)
    have eX:Hid (an ((ts.take (k+1)).map (En.mM v))=an ((ts.take k).map (En.mM v))++[.int .i64 (En.mM v ts[k]:Nat)]):=by
     have e0:ts.take (k+1)=ts.take k++[ts[k]]:=by rw[List.take_add_one,List.getElem?_eq_getElem aG];rfl
     have e1:an ((ts.take (k+1)).map (En.mM v))=an ((ts.take k).map (En.mM v))++[.int .i64 (En.mM v ts[k]:Nat)]:=by rw[e0,List.map_append,List.map_cons,List.map_nil,pW]
     exact e1
    generalize ts[k]=x at ca hx7 eX
    by_cases h3:x<3
    · have hrv:=ah HV.out hb
      obtain⟨gv,rfl,hgv,PV,Yg⟩:=aD hrv (by omega)
      have cv:wr.cell? ⟨gv,x,none⟩=some (.int .i64 (v x:Nat)):=Yg x _ (by
       match x,h3 with
       | 0,_=>rfl
       | 1,_=>rfl
       | 2,_=>rfl)
      have HE:Hid (En.mM v x=v x):=by
       have e1:En.mM v x=v x:=by unfold En.mM;rw[if_pos h3]
       exact e1
      rw[HE.out]at eX
      have hvx:=HVS.out x h3
      clear br Yg bF hrv au hb
      go_wp2_with (at_builtin;refine wpList_append_own _ rfl (.tmp 20) (.tmp 28) 31 rfl w.heap.size 3 i0 _ 1 8 Tryz.underlying31 hi ew ev dY rfl (by decide) _ _ _ rfl (MM.out.alloc _) ⟨wr.heap.size,0,none⟩ 1 1 [.int .i64 (v x:Nat)] rfl rfl (fR _ _ _) (by simp[Value.oneCell']) (by unfold maxLen;omega) (by omega) (by have:=HB.out.size;simp;omega) ?_;intro v2 w2 aP bx _)
      have HX:Hid (w2.ownsRow w.heap.size 3 1 v2 (k+1) (an ((ts.take (k+1)).map (En.mM v)))∧Below w.heap.size w w2):=by
       refine⟨?_,(HB.out.alloc HB.out.size _).grown bx (by have:=HB.out.size;simp;omega) (fun q hq=>(MM.out.lt q hq).1)⟩
       rw[eX.out]
       exact aP
      go_roundw
      case rel=>exact⟨k+1,aG,by go_num,HX.out.1,HX.out.2⟩
      case measure=>simp[intOf];omega
    · have HE:Hid (((En.mM v x:Nat):Int)=(x:Int)-3):=by
       have e1:((En.mM v x:Nat):Int)=(x:Int)-3:=by unfold En.mM;rw[if_neg h3];omega
       exact e1
      rw[HE.out]at eX
      clear br bF au hb
      go_wp2_with (at_builtin;refine wpList_append_own _ rfl (.tmp 30) (.tmp 36) 31 rfl w.heap.size 3 i0 _ 1 8 Tryz.underlying31 hi ew ev dY rfl (by decide) _ _ _ rfl (MM.out.alloc _) ⟨wr.heap.size,0,none⟩ 1 1 [.int .i64 ((x:Int)-3)] rfl rfl (fR _ _ _) (by simp[Value.oneCell']) (by unfold maxLen;omega) (by omega) (by have:=HB.out.size;simp;omega) ?_;intro v2 w2 aP bx _)
      have HX:Hid (w2.ownsRow w.heap.size 3 1 v2 (k+1) (an ((ts.take (k+1)).map (En.mM v)))∧Below w.heap.size w w2):=by
       refine⟨?_,(HB.out.alloc HB.out.size _).grown bx (by have:=HB.out.size;simp;omega) (fun q hq=>(MM.out.lt q hq).1)⟩
       rw[eX.out]
       exact aP
      go_roundw
      case rel=>exact⟨k+1,aG,by go_num,HX.out.1,HX.out.2⟩
      case measure=>simp[intOf];omega
  · have qH:k=ts.length:=by omega
    have HEN:Hid (Calls Tryz.prog 125 #[.int .i64 (P:Nat),.slice ad k ac] wr fun e w'=>e=.returned (.int .i64 (R:Nat))∧Hid (Below w.heap.size w w')):=by
     have h9:=MM.out
     rw[qH,List.take_length]at h9
     rw[qH]
     refine(sP.out wr _ h9).mono ?_
     rintro e w' ⟨rfl,jR⟩
     exact⟨rfl,HB.out.trans (jR.mono HB.out.size)⟩
    clear au hb qH
    go_wp2_with (first | (go_at_call 27;refine(ED _).mono ?_;rintro e w' ⟨rfl,rfl⟩) | (go_at_call 125;refine HEN.out.mono ?_;rintro e w5 ⟨rfl,Ir⟩))
    go_ret
    exact⟨rfl,Ir.out⟩
end
/- axiomkeep.uses. -/
section
open Go.RowKit
def qS(r:Ax.aA)(v:Nat):Bool:=(Ax.bG r).any fun a=>decide (v∈Ax.a8 a)
theorem LY(w:World)(r:Ax.aA)(ad:Option Addr)(n c:Nat)(hB:fo w ad n c r.body)(p a b:Int)(v:Nat):
 Calls Tryz.prog 66 #[.agg #[.int .i64 p,.int .i64 a,.int .i64 b,.slice ad n c],.int .i64 v] w fun e w'=>e=.returned (.bool (qS r v))∧Below w.heap.size w w':=by
 have h2:=hB.two
 have vU:(Ax.bG r).length≤2:=by unfold Ax.bG;simp;omega
 have hlen:=h2.len
 have Zf:=sF hB p a b
 obtain⟨m,hm⟩:∃m,m=min n 2:=⟨_,rfl⟩
 rw[←hm]at h2 hlen Zf
 have hU:Hid (qS r v=(Ax.bG r).any fun a=>decide (v∈Ax.a8 a)):=rfl
 generalize qS r v=R at hU ⊢
 have pG:Hid (fo w ad m c (Ax.bG r)):=h2
 have ll:=h2.cap
 have Y6:=h2.max
 generalize Ax.bG r=L at hU pG hlen vU
 subst hlen
 obtain⟨w0,db⟩:∃w0,w0=w.alloc (.cells #[.int .i64 p,.int .i64 a,.int .i64 b,.slice ad n c] 94):=⟨_,rfl⟩
 have PE:Hid (Below w.heap.size w w0):=by
  have e:Below w.heap.size w w0:=by rw[db];exact(Below.refl _ _).alloc (Nat.le_refl _) _
  exact e
 have HBV:Hid (Calls Tryz.prog 63 #[.agg #[.int .i64 p,.int .i64 a,.int .i64 b,.slice ad n c]] w0 fun e w'=>e=.returned (.slice ad L.length c)∧Hid (Below w.heap.size w w')):=by
  refine(Zf w0).mono ?_
  rintro e w' ⟨rfl,hb⟩
  exact⟨rfl,PE.out.trans (hb.mono PE.out.size)⟩
 clear h2 Zf hm hB
 go_enter Tryz.func66,Tryz.ntmps66
 go_wp2_with fail
 rw[←db]
 refine HBV.out.mono ?_
 rintro e w1 ⟨rfl,lh⟩
 clear db
 go_wp2_with fail
 go_loopw [6] (fun i wr=>∃(k:Nat),k≤L.length∧i=.int .i64 k∧((L.take k).any fun a=>decide (v∈Ax.a8 a))=false∧Below w.heap.size w wr) (fun i _=>L.length-(intOf i).toNat)
 case atStart=>exact⟨0,Nat.zero_le _,rfl,rfl,lh.out⟩
 case round=>
  obtain⟨k,hk,rfl,jK,hb⟩:=hrel
  have vz:Hid (((L.take k).any fun a=>decide (v∈Ax.a8 a))=false):=jK
  have HB:Hid (Below w.heap.size w wr):=hb
  clear jK
  by_cases aG:k<L.length
  · obtain⟨g,o,rfl,ha⟩:=(pG.out.below hb).at_ k aG
    obtain⟨c0,c1,c2,f0,f1,f2⟩:=ha
    have eX:Hid (((L.take (k+1)).any fun a=>decide (v∈Ax.a8 a))=(((L.take k).any fun a=>decide (v∈Ax.a8 a))||decide (v∈Ax.a8 L[k]))):=by
     have e0:L.take (k+1)=L.take k++[L[k]]:=by rw[List.take_add_one,List.getElem?_eq_getElem aG];rfl
     have e1:((L.take (k+1)).any fun a=>decide (v∈Ax.a8 a))=(((L.take k).any fun a=>decide (v∈Ax.a8 a))||decide (v∈Ax.a8 L[k])):=by rw[e0,List.any_append];simp
     exact e1
    have RB:Hid (v∈Ax.a8 L[k]→L.any (fun a=>decide (v∈Ax.a8 a))=true):=fun h=>List.any_eq_true.2 ⟨L[k],List.getElem_mem aG,by simpa using h⟩
    have S7:=kG wr L[k] f0 f1 f2
    generalize L[k]=at' at*
    obtain⟨ap,aa,ab⟩:=at'
    simp only at c0 c1 c2 S7 f0 f1 f2
    generalize Ax.a8 ⟨ap,aa,ab⟩=tl at S7 eX RB
    have Xs:Hid (Calls Tryz.prog 64 #[.agg #[.int .i64 ap,.int .i64 aa,.int .i64 ab]] wr fun e w'=>∃d c,e=.returned (.slice d tl.length c)∧Hid (w'.ownsRow wr.heap.size 3 1 (.slice d tl.length c) tl.length (an tl))∧Hid (Below w.heap.size w w')):=by
     refine S7.mono ?_
     rintro e w' ⟨d,c,rfl,q1,q2⟩
     exact⟨d,c,rfl,q1,HB.out.trans (q2.mono HB.out.size)⟩
    clear S7 hb f0 f1 f2
    by_cases fy:v∈tl
    · have hd:decide (v∈tl)=true:=by simpa using fy
      have hR:Hid (R=true):=by
       have e:R=true:=by rw[hU.out];exact RB.out fy
       exact e
      go_wp2_with (first | (go_at_call 64;refine Xs.out.mono ?_;rintro e w5 ⟨d5,c5,rfl,W5,Ir⟩) | (go_at_call 123;refine(F9 _ _ _ _ _ W5.out v).mono ?_;rintro e w6 ⟨rfl,rfl⟩;rw[hd]))
      go_ret
      exact⟨by rw[hR.out];rfl,Ir.out⟩
    · have hd:decide (v∈tl)=false:=by simpa using fy
      rw[hd,vz.out]at eX
      go_wp2_with (first | (go_at_call 64;refine Xs.out.mono ?_;rintro e w5 ⟨d5,c5,rfl,W5,Ir⟩) | (go_at_call 123;refine(F9 _ _ _ _ _ W5.out v).mono ?_;rintro e w6 ⟨rfl,rfl⟩;rw[hd]))
      go_roundw
      case rel=>exact⟨k+1,aG,by go_num,eX.out,Ir.out⟩
      case measure=>simp[intOf];omega
  · have hR:Hid (R=false):=by
     have e:R=false:=by
      rw[hU.out]
      have:=vz.out
      rwa [List.take_of_length_le (by omega)]at this
     exact e
    clear hb
    go_wp2_with fail
    go_ret
    exact⟨by rw[hR.out];rfl,HB.out⟩
end
/- The blanks that Plain lays between the tokens. No program here. -/
namespace Ax
def cP(c:Int):List UInt8:=[32,32,10,32].take (aT c 4)
end Ax
end Go.Proofs.YtdmicblafmhflaaGreatDoor
