/- A table's Facts, walked. -/
import Derived.Test.YtdmicblafmhflaaGreatDoorC11
set_option linter.unusedSimpArgs false
set_option linter.unusedVariables false
set_option maxHeartbeats 40000000
set_option maxRecDepth 100000
namespace Go.Proofs.YtdmicblafmhflaaGreatDoor
open Go.Proofs.Tryz Go.RowKit
open Go.Sort (grow)
variable{D:List (ByteArray×List ByteArray)}{F:List FI}{lb n:Nat}{w wr:World}
def gC(n:Nat):List Value:=(List.replicate n [Value.string ByteArray.empty,.slice none 0 0]).flatten
theorem ij(n):gC (n+1)=.string ByteArray.empty::.slice none 0 0::gC n:=by simp[gC,List.replicate_succ]
theorem aX(l):(ax l).length=l.length*2:=by
 induction l with
 | nil=>rfl
 | cons a l ih=>
  have e:ax (a::l)=.string a.pred::a.av::ax l:=rfl;rw[e];simp[ih];omega
theorem zN(n):(madeCells (#[Value.string ByteArray.empty,.slice none 0 0]) (n*2)).toList=gC n:=by
 induction n with
 | zero=>simp[madeCells,gC]
 | succ n ih=>
  have j:(madeCells (#[Value.string ByteArray.empty,.slice none 0 0]) ((n+1)*2)).toList=(madeCells (#[Value.string ByteArray.empty,.slice none 0 0]) (n*2)).toList++[.string ByteArray.empty,.slice none 0 0]:=by
   unfold madeCells;rw[show(n+1)*2=n*2+1+1 by omega,Array.range_succ,Array.range_succ];simp
  rw[j,ih];have i:∀m,gC m++[.string ByteArray.empty,.slice none 0 0]=gC (m+1):=by
   intro m
   induction m with
   | zero=>rfl
   | succ m e=>rw[ij,ij (m+1),<-e];rfl
  exact i n
structure KQ(w wr:World)(lb n:Nat)(D:List (ByteArray×List ByteArray))(F:List FI):Prop where
 aY:wr.heap[lb]?=some (.cells (ax F++gC (n-F.length)).toArray 48 (0,0))
 each:∀f,f∈F->wr.ownsRow w.heap.size 9 1 f.av f.args.length (strCells f.args)
 data:F.map (λf=>(f.pred,f.args))=D
 be:Below w.heap.size w wr
 ge:w.heap.size<=lb
 le:F.length<=n
 apart:F.Pairwise λa b=>∀q,a.av.ownBlock=some q->b.av.ownBlock≠some q
theorem KQ.below{w'}(h:KQ w wr lb n D F)(e:Below wr.heap.size wr w'):KQ w w' lb n D F:=
 ⟨by rw[e.block _ (lt_of_heap h.aY)];exact h.aY,λf i=>ae (h.each f i) e,h.data,h.be.trans (e.mono h.be.size),h.ge,h.le,h.apart⟩
theorem KQ.cells(h:KQ w wr lb n D F){k}(j:F.length=k)(q:k<n):wr.cell? ⟨lb,k*2,none⟩=some (.string ByteArray.empty)/\wr.cell? ⟨lb,k*2+1,none⟩=some (.slice none 0 0)/\(∀o,wr.frozen? ⟨lb,o,none⟩=false)/\lb<wr.heap.size:=by
 have e:n-F.length=(n-F.length-1)+1:=by omega
 have i:=h.aY;rw[e,ij]at i;refine⟨?_, ?_,λo=>by simp[World.frozen?,i],lt_of_heap i⟩
 ·rw[aaB _ _ _ _ _ _ i,aaV,abr (by rw[aX];omega),aX];simp[j]
 ·rw[aaB _ _ _ _ _ _ i,aaV,abr (by rw[aX];omega),aX];have:k*2+1-F.length*2=1:=by omega
  rw[this];rfl
theorem KQ.step(h:KQ w wr lb n D F)(H:F.length<n)(f:FI)(I:wr.ownsRow w.heap.size 9 1 f.av f.args.length (strCells f.args))(x:∀g,g∈F->∀q,(FI.av g).ownBlock=some q->f.av.ownBlock≠some q):KQ w ((wr.setCell ⟨lb,F.length*2,none⟩ (.string f.pred)).setCell ⟨lb,F.length*2+1,none⟩ f.av) lb n (D++[(f.pred,f.args)]) (F++[f]):=by
 have u:Kb [lb] wr ((wr.setCell ⟨lb,F.length*2,none⟩ (.string f.pred)).setCell ⟨lb,F.length*2+1,none⟩ f.av):=(Kb.setCell wr ⟨lb,F.length*2,none⟩ _).trans (Kb.setCell _ ⟨lb,F.length*2+1,none⟩ _);have E:∀i,wr.ownsRow w.heap.size 9 1 (FI.av i) i.args.length (strCells i.args)->((wr.setCell ⟨lb,F.length*2,none⟩ (.string f.pred)).setCell ⟨lb,F.length*2+1,none⟩ f.av).ownsRow w.heap.size 9 1 i.av i.args.length (strCells i.args):=λi A=>u.aR A (λb B fz j e=>by
  simp at j;subst j;rw[h.aY]at e;simp at e)
 refine⟨?_, ?_,by rw[aa6,h.data];rfl,u.aQ h.be h.be.size (by simpa using h.ge),h.ge,by rw[If];exact H,acO.2 ⟨h.apart,List.pairwise_singleton _ _,λa y b j=>by simp only[aae]at j;subst j;exact x a y⟩⟩
 ·have j:=h.aY;rw[show n-F.length=(n-F.length-1)+1 by omega,ij]at j;rw[aC _ (aC wr j (F.length*2) (.string f.pred)) (F.length*2+1) f.av];congr 2;rw[IT,IT];congr 1;rw[ab9 _ _ (by rw[aX];omega),aX,aew,aaE,ab9 _ _ (by rw[aX];omega),aX];rw[show F.length*2+1-F.length*2=1 by omega,aaH,aaE];rw[show n-(F++[f]).length=n-F.length-1 by rw[If];simp;omega,sV];simp
 ·intro i t;rcases ZD.1 t with t | t
  ·exact E i (h.each i t)
  ·grind
theorem KQ.all(h:KQ w wr lb n D F)(e:F.length=n)(hm:n<=999999):bJ wr (some ⟨lb,0,none⟩) n F:=by
 refine⟨?_,λf j=>aD (h.each f j) (IS _)⟩;have i:=h.aY;rw[e,aew]at i;refine⟨aX F,.inr ⟨lb,n,_,by rw[e],IS _,i,by omega,by unfold maxLen;omega,by simp[gC,aX,e], ?_⟩⟩;simp[gC,aX,aaP]
theorem K9(w g){T}(nm pl rd rc L){rest}(h:cW w g T nm pl rd rc L rest)(hL:L.length<=999999)(h1:1<=pl)(h3:pl<=3):
 Calls prog 40 #[.pointer (some ⟨g,0,none⟩)] w λe w'=>∃lb F,e=.returned (.slice (some ⟨lb,0,none⟩) L.length L.length)/\bJ w' (some ⟨lb,0,none⟩) L.length F/\F.length=L.length/\F.map (λf=>(f.pred,f.args))=L.map (λr=>(nm,r.take pl))/\Below w.heap.size w w'/\w.heap.size<=lb/\(∀f,f∈F->∀q,f.av.ownBlock=some q->w.heap.size<=q)/\F.Pairwise (λa b=>∀q,a.av.ownBlock=some q->b.av.ownBlock≠some q):=by
 obtain⟨i0,fC,cE,ch,cz⟩:=abF Tryz.F6;obtain⟨k2,kf,k1,k0⟩:=h.jG;have jy:=lt_of_heap h.aY;have HT:=aj h;have kW:=aH h.rows.own;have amT:L.length<=rc:=by
  rcases h.rows.own.2 with⟨N,e2⟩ | ⟨g',cap,X,N,_,hg,hc,hm,_⟩
  ·omega
  ·simp only[abi]at N;omega
 clear h
 go_enter func40,ntmps40
 go_wp2_with (at_make;refine wpList_make_full _ rfl _ _ 37 rfl w.heap.size 48 i0 _ 2 abX fC cE ch .i64 .i64 L.length L.length L.length rfl rfl rfl rfl (by rw[cz];omega) eI (OF _) ?_;intro w1 bx N5;have aV:Below w.heap.size w w1:=(aaj _ _).grown N5 (OF _) (λq hq=>by cases hq);have m2:w1.cell? ⟨g,2,none⟩=some (.slice rd L.length rc):=(by rw[aV.cell jy];exact k2);have Xb:g<w1.heap.size:=aa7 jy aV.size)
 have Jf:Hid (KQ w w1 w.heap.size L.length ((L.take 0).map λr=>(nm,r.take pl)) []):=by
  refine⟨?_,(λf hf=>by cases hf),rfl,aV,OF _,IS _,List.Pairwise.nil⟩;obtain⟨_,⟨N,_⟩ | ⟨g',cap,X,N,_,e3,_,_,e6,e7⟩⟩:=bx
  ·cases N
  ·simp only[abi,AT,aco,aex,true_and]at N;obtain⟨rfl,rfl⟩:=N;rw[aaP (by rw[abP,e6];exact OF _)]at e7;have e8:X.toList=gC L.length:=by rw[e7];exact zN L.length
   rw[e3];have e9:X=(ax []++gC (L.length-([]:List FI).length)).toArray:=by
    rw[adC,Nat.sub_zero,<-e8];simp[ax]
   rw[<-e9]
 clear bx N5 fC cE ch cz aV
 go_loopw [17] (λi wr=>∃(k:Nat) (F:List FI),k<=L.length/\i=.int .i64 k/\F.length=k/\KQ w wr w.heap.size L.length ((L.take k).map λr=>(nm,r.take pl)) F) (λi _=>L.length-(intOf i).toNat)
 ·exact⟨0,[],IS _,rfl,rfl,Jf.out⟩
 ·
  obtain⟨k,F,hk,rfl,I,J⟩:=hrel;have HF:=aj J;clear Jf;by_cases aL:k<L.length
  ·have NI:=HT.out.below J.be;obtain⟨j2,jf,j1,j0⟩:=NI.jG;obtain⟨rg,rfl,I9,hrc,bA⟩:=aA NI.rows.own;obtain⟨B,A,t,bC⟩:∃B A t,L[k]=[B,A,t]:=by
    have M:=NI.rows.three L[k] (IN aL)
    match hLk:L[k],M with
    | [x,y,z],_=>exact⟨x,y,z,rfl⟩
   obtain⟨r0,r1,r2⟩:=nE NI.rows.three aL bC;have c0:=bA _ _ r0;have c1:=bA _ _ r1;have c2:=bA _ _ r2;have vX:([B,A,t].take pl).length=pl:=by rw[abv];simp;omega
   have kG:Hid ((L.take (k+1)).map (λr=>(nm,r.take pl))=(L.take k).map (λr=>(nm,r.take pl))++[(nm,[B,A,t].take pl)]):=by
    have e0:L.take (k+1)=L.take k++[L[k]]:=by rw[aaZ,AS aL];rfl
    have N:(L.take (k+1)).map (λr=>(nm,r.take pl))=(L.take k).map (λr=>(nm,r.take pl))++[(nm,[B,A,t].take pl)]:=by rw[e0,aa6,bC];rfl
    exact N
   obtain⟨O,NP⟩:∃O,O=wr.alloc (.cells #[.string B,.string A,.string t] 119):=⟨_,rfl⟩;have Y:Below wr.heap.size wr O:=by rw[NP];exact aM
   have U:O.heap[wr.heap.size]?=some (.cells #[.string B,.string A,.string t] 119 (0,0)):=by rw[NP];exact By wr _
   have WT:Hid (∀W,Below O.heap.size O W->Calls prog 73 #[.slice (some ⟨wr.heap.size,0,none⟩) pl 3] W λe D=>∃E H,e=.returned (.slice E pl H)/\D.cell? ⟨g,0,none⟩=some (.string nm)/\D.cell? ⟨g,1,none⟩=some (.int .i64 (pl:Nat))/\D.cell? ⟨w.heap.size,k*2,none⟩=some (.string ByteArray.empty)/\D.cell? ⟨w.heap.size,k*2+1,none⟩=some (.slice none 0 0)/\(∀o,D.frozen? ⟨w.heap.size,o,none⟩=false)/\w.heap.size<D.heap.size/\Hid (KQ w D w.heap.size L.length ((L.take k).map λr=>(nm,r.take pl)) F/\D.ownsRow w.heap.size 9 1 (.slice E pl H) pl (strCells ([B,A,t].take pl))/\∀g',g'∈F->∀q,(FI.av g').ownBlock=some q->(Value.slice E pl H).ownBlock≠some q)):=by
    intro W hW;have hg9:W.heap[wr.heap.size]?=some (.cells #[.string B,.string A,.string t] 119 (0,0)):=by rw[hW.block _ (lt_of_heap U)];exact U
    have AG:=Dr W ⟨wr.heap.size,0,none⟩ ([B,A,t].take pl) 3 (λj u hu=>by
     rw[Addr.add_lit,aaB _ _ _ _ _ _ hg9];have M:(strCells [B,A,t])[j]?=some u:=by
      have e:strCells ([B,A,t].take pl)=(strCells [B,A,t]).take pl:=by simp[strCells,List.map_take]
      rw[e,adN]at hu;split at hu
      ·exact hu
      ·cases hu
     simpa [strCells]using M) (by rw[vX];exact h3) (by rw[vX];omega) (by rw[vX];exact h3) (by decide)
    rw[vX]at AG;refine AG.mono ?_;rintro e D ⟨E,H,rfl,q1,q2⟩;have fR:Below wr.heap.size wr D:=(Y.trans (hW.mono Y.size)).trans (q2.mono (by have:=Y.size;have:=hW.size;omega));have V:=HF.out.below fR;obtain⟨y1,y2,y3,y4⟩:=V.cells I aL;obtain⟨_,_,z1,z0⟩:=(HT.out.below V.be).jG;exact⟨E,H,rfl,z0,z1,y1,y2,y3,y4,V,aD q1 (by have:=HF.out.be.size;have:=Y.size;have:=hW.size;omega),λg' nW q hq e9=>by have h8:=((HF.out.each g' nW).lt q hq).2;have h7:=(q1.lt q e9).1;have:=Y.size;have:=hW.size;omega⟩
   have x0:=wj Y j0;have x1:=wj Y j1;have anJ:g<O.heap.size:=abT x0;clear J NI bA r0 r1 r2 bC U;have aqv:g≠w.heap.size:=by omega
   have arh:w.heap.size≠g:=by omega
   have b1:(0:Int)<=(pl:Int):=by omega
   have b2:(pl:Int)<=3:=by omega
   have b3:(0:Int)<=(k:Int):=by omega
   have b4:(k:Int)<L.length:=by omega
   go_wp2_with fail
   rw[<-NP];clear NP j0 j1 j2 jf c0 c1 c2 m2 Xb
   go_region_held3 (λW=>W.cell? ⟨g,0,none⟩=some (.string nm)/\W.cell? ⟨g,1,none⟩=some (.int .i64 (pl:Nat))) (go_keep) ((go_at_call 73;refine(WT.out _ (by exact(aaj _ _).drew)).mono ?_;rintro e D ⟨E,H,rfl,z0,z1,y1,y2,y3,y4,Z⟩;have f0:=y3 (k*2);have f1:=y3 (k*2+1)))
   all_goals
    (have HX:Hid (KQ w ((D.setCell ⟨w.heap.size,k*2,none⟩ (.string nm)).setCell ⟨w.heap.size,k*2+1,none⟩ (.slice E pl H)) w.heap.size L.length ((L.take (k+1)).map λr=>(nm,r.take pl)) (F++[⟨nm,[B,A,t].take pl,.slice E pl H⟩])):=by
      rw[kG.out];have M:=Z.out.1.step (by rw[I];exact aL) ⟨nm,[B,A,t].take pl,.slice E pl H⟩ (by rw[vX];exact Z.out.2.1) (by exact Z.out.2.2);rw[I]at M;exact M
     have HL9:Hid ((F++[(⟨nm,[B,A,t].take pl,.slice E pl H⟩:FI)]).length=k+1):=by
      have e:(F++[(⟨nm,[B,A,t].take pl,.slice E pl H⟩:FI)]).length=k+1:=by rw[If,I];rfl
      exact e
     go_wp2_with fail
     go_roundw
     ·exact⟨k+1,_,aL,by go_num,HL9.out,HX.out⟩
     ·(simp[intOf];omega))
  ·have HE:Hid (bJ wr (some ⟨w.heap.size,0,none⟩) L.length F/\F.length=L.length/\F.map (λf=>(f.pred,f.args))=L.map (λr=>(nm,r.take pl))/\Below w.heap.size w wr/\w.heap.size<=w.heap.size/\(∀f,f∈F->∀q,f.av.ownBlock=some q->w.heap.size<=q)/\F.Pairwise (λa b=>∀q,a.av.ownBlock=some q->b.av.ownBlock≠some q)):=by
    have e:k=L.length:=by omega
    have M:=J.data;rw[e,abS]at M;exact⟨J.all (by omega) hL,by omega,M,J.be,OF _,λf hf q hq=>((J.each f hf).lt q hq).1,J.apart⟩
   clear J HF
   go_wp2_with fail
   go_ret;exact⟨_,F,rfl,HE.out⟩
/- axiomref: ordered. -/
theorem uE:∀{a b:List ByteArray},a.length=b.length->gL a b=decide (Tb.cr a b<0)
 | [],[],_=>by simp[gL,Tb.cr]
 | [],_::_,h=>by simp at h
 | _::_,[],h=>by simp at h
 | x::a,y::b,h=>by
  have ih:=uE (a:=a) (b:=b) (by simpa using h);unfold gL Tb.cr;by_cases e:x=y
  ·rw[aa3 e,aaD (by simp[Tb.gE.2 e]),ih]
  ·rw[aaD e,aa3 (λi=>e (Tb.gE.1 i))];rw[abH,abW,Tb.kV]
theorem Nk{f g}(h:f.1=g.1->f.2.length=g.2.length):gL (f.1::f.2) (g.1::g.2)=decide (Tb.cr (Rf.enc f) (Rf.enc g)<0):=by
 by_cases e:f.1=g.1
 ·exact uE (by simp[h e])
 ·unfold gL Rf.enc Tb.cr;rw[aaD e,aa3 (λi=>e (Tb.gE.1 i))];rw[abH,abW,Tb.kV]
theorem dB{P q rest o a}{Q:Exit->Act->World->Prop}(D:o.guard=none)(s x t)
 (M:o.op=.call {callee:=.builtin .append,args:=#[s,x],argTypes:=#[t,t]})
 (base e i z size bytes)(J:P.underlying t=some (.slice e))(O:P.info? e=some i)(H:i.zero=some z)
 (W:i.size=size)(y:i.bytes=bytes)(B:z.cells.size=size)(Z:0<size)
 (v n xs)(hs:a.eval s=v)(aE:w.ownsRow base e size v n xs)
 (ad m c news)(I:a.eval x=.slice (some ad) m c)(N:news.length=m*size)(Y:∀j u,news[j]?=some u->w.cell? (ad.add j)=some u)(U:∀u∈news,u.oneCell'=true)
 (A:n+m<=maxLen)(X:(n+m)*bytes<=140737488355328)(V:base<=w.heap.size)
 (h:∀v' w',w'.ownsRow base e size v' (n+m) (xs++news)->w.grownBy w' v.ownBlock->wpList P q Q rest (a.put o.dst v') w'):wpList P q Q (o::rest) a w:=
 abp _ D s x t M base e i z size bytes J O H W y B Z v n xs hs aE ad m c news I N Y U A X V λv' w' F E _=>h v' w' F E
theorem Eb(l k):ax (l.take k)=(ax l).take (k*2):=by
 induction l generalizing k with
 | nil=>simp[ax]
 | cons a l ih=>
  cases k with
  | zero=>simp[ax]
  | succ k=>
   have e:ax (a::l)=.string a.pred::a.av::ax l:=rfl;have i:ax (a::l.take k)=.string a.pred::a.av::ax (l.take k):=rfl;rw[adK,e,i,ih,show(k+1)*2=k*2+1+1 by omega];rfl
theorem CS(l k):ax (l.drop k)=(ax l).drop (k*2):=by
 induction l generalizing k with
 | nil=>simp[ax]
 | cons a l ih=>
  cases k with
  | zero=>simp
  | succ k=>
   have e:ax (a::l)=.string a.pred::a.av::ax l:=rfl;rw[List.drop_succ_cons,e,ih,show(k+1)*2=k*2+1+1 by omega];rfl
theorem Si{L x p}(D:Tb.Ord (L.map Rf.enc))(A:¬x∈L)(B:p<=L.length)(q:∀k (j:k<L.length),p<=k->Tb.cr (Rf.enc x) (Rf.enc L[k])<0)(E:∀k (j:k<L.length),k+1=p->¬Tb.cr (Rf.enc x) (Rf.enc L[k])<0):Rf.AW L x=p:=by
 unfold Rf.AW;refine PQ (by simpa using B) ?_ ?_
 ·intro k j y;have w:k<L.length:=by simpa using j
  have i:p-1<L.length:=by omega
  have u:Tb.cr (Rf.enc L[p-1]) (Rf.enc x)<0:=by
   refine Tb.tX (E (p-1) i (by omega)) ?_;intro e;exact A (Rf.D0 e▸IN i)
  have t:Tb.cr ((L.map Rf.enc)[p-1]'(by simpa using i)) (Rf.enc x)<0:=by simpa using u
  exact Tb.yB D (by omega) (by simpa using i) t
 ·intro k j y;have w:k<L.length:=by simpa using j
  have i:=q k w y;rw[adj];intro u;have t:=Tb.jh i u;rw[Tb.mH]at t;omega
structure OW(w:World)(B0:Nat)(l:List FI)(i:Nat)(od:Option Addr)(oc:Nat)(out:List FI)(W:World):Prop where
 row:W.ownsRow w.heap.size 48 2 (.slice od out.length oc) out.length (ax out)
 be:Below w.heap.size w W
 dat:out.map FI.f=((l.map FI.f).take i).foldl Rf.vV []
 sub:∀x,x∈out->x∈l.take i
 len:out.length=i
theorem Fq(w fd fc l)(h:bJ w fd fc l)(hl:l.length<=1000)(Hd:(l.map FI.f).Nodup)(har:∀f,f∈l->∀g,g∈l->f.pred=g.pred->f.args.length=g.args.length):
 Calls prog 152 #[.slice fd l.length fc] w λe w'=>∃od U out,e=.returned (.slice od (List.length out) U)/\OW w 0 l l.length od U out w':=by
 obtain⟨N,fC,cE,ch,cz⟩:=abF Tryz.kI;have t:Hid (prog.info? 48=some N/\N.zero=some (.agg #[.string ByteArray.empty,.slice none 0 0])/\N.size=2/\N.bytes=40):=⟨fC,cE,ch,cz⟩;clear fC cE ch cz;have HF:=aj h;have HN:=aj Hd;have Sa:=aj har;have hle:=aH h.row;clear h Hd har
 go_enter func152,ntmps152
 go_wp2_with fail
 go_loopw [3,4] (λov iv wr=>∃(i:Nat) (od:Option Addr) (U:Nat) (out:List FI),i<=l.length/\iv=.int .i64 i/\ov=.slice od out.length U/\Hid (OW w 0 l i od U out wr)) (λ_ iv _=>l.length-(intOf iv).toNat)
 ·exact⟨0,none,0,[],IS _,rfl,rfl,aaM _ _ _ _,aaj _ _,rfl,(λ_ h=>by cases h),rfl⟩
 ·
  obtain⟨i,od,U,out,hi,rfl,rfl,H⟩:=hrel;have aF:=H.out.be;have cp:=aF.size;have jE:=H.out.len;by_cases h1:i<l.length
  ·have gD:decide ((i:Int)<l.length)=true:=aap (by omega);have Q1:=IN h1;obtain⟨g,rfl,hg,wQ,c0,c1⟩:=(HF.out.below aF).at_ h1;obtain⟨I,J,hy⟩:=ah (HF.out.each _ Q1);have HNI:Hid (¬(l[i]).f∈out.map FI.f):=by
    intro hm;obtain⟨z,y,e⟩:=aax.1 hm;have cz:=H.out.sub z y;have hn:=HN.out;rw[<-ab7 i (l.map FI.f),adn]at hn;refine hn.2.2 _ (by rw[<-List.map_take];exact aaN cz) (l[i]).f ?_ e;rw[aan (by simpa using h1)];simp
   have WM:Hid (Tb.Ord ((out.map FI.f).map Rf.enc)):=by
    show Tb.Ord _;rw[H.out.dat];refine(Rf.D6 (L:=(l.map FI.f).take i) ?_).1;exact ad8 (List.take_sublist _ _) HN.out
   have sW:Hid (∀W Hk Hh (p:Nat),Below w.heap.size w W->Rf.AW (out.map FI.f) (l[i]).f=p->W.ownsRow w.heap.size 48 2 (.slice Hk (p+1+(out.length-p)) Hh) (p+1+(out.length-p)) (ax (out.take p)++[.string (l[i]).pred,(l[i]).av]++ax (out.drop p))->p<=out.length->Hid (OW w 0 l (i+1) Hk Hh (out.take p++l[i]::out.drop p) W)/\(out.take p++l[i]::out.drop p).length=p+1+(out.length-p)):=by
    intro W Hk Hh p F hp ho Bs;have hlen:(out.take p++l[i]::out.drop p).length=p+1+(out.length-p):=by simp;omega
    refine⟨⟨?_,F, ?_, ?_, ?_⟩,hlen⟩
    ·rw[hlen];have e:ax (out.take p++l[i]::out.drop p)=ax (out.take p)++[.string (l[i]).pred,(l[i]).av]++ax (out.drop p):=by simp[ax]
     rw[e];exact ho
    ·rw[aaZ,AS (by simpa using h1),List.foldl_append,<-H.out.dat];simp only[Option.toList_some,aeD,List.foldl_nil,adj];unfold Rf.vV;rw[hp,<-List.map_take,<-List.map_drop];simp
    ·intro z y;rw[aaZ,AS h1];rcases ZD.1 y with y | y
     ·exact acH _ (H.out.sub z (ab4 y))
     ·rcases BY.1 y with y | y
      ·exact List.mem_append_right _ (by rw[y];simp)
      ·exact acH _ (H.out.sub z (acY y))
    ·rw[hlen];omega
   have i1':(0:Int)<=(i:Int):=by omega
   have i2':(i:Int)<l.length:=by omega
   rcases H.out.row.2 with⟨e1,e2⟩ | ⟨A,cap,cur,e1,YW,Cd,kM,ajn,Jv,hot⟩
   ·simp only[abi]at e1;obtain⟨rfl,_,rfl⟩:=e1;have Vc:out=[]:=abR e2;have HS0:Hid (∀W Hk Hh,Below w.heap.size w W->W.ownsRow w.heap.size 48 2 (.slice Hk 1 Hh) 1 [.string (l[i]).pred,(l[i]).av]->Hid (OW w 0 l (i+1) Hk Hh [l[i]] W)):=by
     intro W Hk Hh F ho;have V:=sW.out W Hk Hh 0 F (by rw[Vc];rfl) (by rw[Vc];simpa [ax]using ho) (by omega);rw[Vc]at V;simpa using V.1
    rw[hy]at c1 HS0;have fC:i=0:=by rw[<-jE,Vc];rfl
    subst Vc;subst fC;generalize (l[0]).pred=X at*;generalize (l[0]).args.length=xn at*;clear H sW hy e2 Q1 HNI WM jE hi;simp only[adC]at*;have Dh:=aj aF;clear aF
    go_wp2_with fail
    go_loopw [5] (λav wq=>av=.int .i64 0/\wq=wr) (λ_ _=>0)
    ·exact⟨rfl,rfl⟩
    ·
     obtain⟨rfl,rfl⟩:=hrel
     go_wp2_with (first | (at_builtin;refine ad3 rfl (.tmp 32) (.tmp 35) 37 rfl w.heap.size 48 N 2 abX t.out.1 (.slice none 0 0) 0 [] rfl (aaM _ _ _ _) rfl ?_) | (at_builtin;refine abp _ rfl (.tmp 37) (.tmp 42) 37 rfl w.heap.size 48 N _ 2 40 abX t.out.1 t.out.2.1 t.out.2.2.1 t.out.2.2.2 rfl (by decide) (.slice none 0 0) 0 [] rfl (aaM _ _ _ _) ⟨_,0,none⟩ 1 1 [.string X,.slice I xn J] rfl rfl (abC (By _ _)) (by simp[Value.oneCell']) eI (by omega) (by simp;omega) ?_;intro v3 w3 cm dk _;obtain⟨VG,Vf,rfl⟩:=ah cm;have qI:Hid (Below w.heap.size w w3):=(Dh.out.alloc Dh.out.size _).grown dk (by simp;omega) (λq Y=>by cases Y);have Ot:Hid (w3.ownsRow w.heap.size 48 2 (.slice VG 1 Vf) 1 [.string X,.slice I xn J]):=cm) | (at_builtin;refine ad3 rfl (.tmp 44) (.tmp 47) 37 rfl w.heap.size 48 N 2 abX t.out.1 (.slice VG 1 Vf) 1 _ rfl Ot.out rfl ?_))
     go_roundw
     ·exact⟨1,VG,Vf,[l[0]],by omega,rfl,rfl,HS0.out w3 VG Vf qI.out Ot.out⟩
     ·(simp[intOf];omega)
   ·simp only[abi]at e1;obtain⟨rfl,_,rfl⟩:=e1;have rM:Hid (∀m:List FI,(∀z,z∈m->z∈out)->∀u∈ax m,u.oneCell'=true):=by
     intro m hm u B;obtain⟨z,y,B⟩:=aa9.1 B;simp only[BY,acC,aeH]at B;rcases B with rfl | rfl
     ·rfl
     ·obtain⟨d,c,e⟩:=ah (HF.out.each z (ab4 (H.out.sub z (hm z y))));rw[e];rfl
    have Jo:Hid (∀W,Below wr.heap.size wr W->A<W.heap.size/\∀j u,(ax out)[j]?=some u->W.cell? ⟨A,j,none⟩=some u):=by
     intro W F;have aL:=lt_of_heap Cd;refine⟨aa7 aL F.size,λj u B=>?_⟩;rw[F.cell aL,aq Cd];rw[<-hot,adN]at B;split at B
     ·simpa using B
     ·cases B
    have fK:∀(o j:Nat),(⟨A,o,none⟩:Addr).add j=⟨A,o+j,none⟩:=λo j=>by unfold Addr.add;split<;>simp_all
    have tL:Hid (∀W (P:Nat),Below wr.heap.size wr W->P<=out.length->(ax (out.take P)).length=P*2/\∀j u,(ax (out.take P))[j]?=some u->W.cell? ((⟨A,0,none⟩:Addr).add j)=some u):=by
     intro W P F hP;refine⟨by rw[aX,abv];congr 1;omega,λj u B=>?_⟩;rw[Eb,adN]at B;rw[fK,acm];split at B
     ·exact(Jo.out W F).2 j u B
     ·cases B
    have HDR:Hid (∀W (P:Nat),Below wr.heap.size wr W->P<=out.length->(ax (out.drop P)).length=(out.length-P)*2/\∀j u,(ax (out.drop P))[j]?=some u->W.cell? ((⟨A,P*2,none⟩:Addr).add j)=some u):=by
     intro W P F hP;refine⟨by rw[aX,acP],λj u B=>?_⟩;rw[CS,aeu]at B;rw[fK];exact(Jo.out W F).2 _ u B
    have RR:Hid (∀W,Below wr.heap.size wr W->g<W.heap.size/\W.cell? ⟨g,i*2,none⟩=some (.string (l[i]).pred)/\W.cell? ⟨g,i*2+1,none⟩=some (.slice I (l[i]).args.length J)):=by
     intro W F;rw[hy]at c1;exact⟨aa7 hg F.size,by rw[F.cell hg];exact c0,by rw[F.cell hg];exact c1⟩
    have R1:Hid (∀W (k:Nat) (E:k<out.length),Below wr.heap.size wr W->Calls prog 211 #[.agg #[.string (l[i]).pred,.slice I (l[i]).args.length J],.agg #[.string (out[k]).pred,(out[k]).av]] W λe w'=>e=.returned (.bool (decide (Tb.cr (Rf.enc (l[i]).f) (Rf.enc (out[k]).f)<0)))/\Below W.heap.size W w'):=by
     intro W k E F;have hmo:=ab4 (H.out.sub _ (IN E));have zR:Below w.heap.size w W:=aF.trans (F.mono aF.size);have V:=OH W (l[i]).pred (out[k]).pred (l[i]).args (out[k]).args (l[i]).av (out[k]).av (ae (HF.out.each _ Q1) zR) (ae (HF.out.each _ hmo) zR) (Sa.out _ Q1 _ hmo);rw[hy]at V;have e9:=Nk (f:=(l[i]).f) (g:=(out[k]).f) (Sa.out _ Q1 _ hmo);rw[<-e9];exact V
    have Ze:Hid (∀P,P<=out.length->(∀k (E:k<out.length),P<=k->Tb.cr (Rf.enc (l[i]).f) (Rf.enc (out[k]).f)<0)->(∀k (E:k<out.length),k+1=P->¬Tb.cr (Rf.enc (l[i]).f) (Rf.enc (out[k]).f)<0)->Rf.AW (out.map FI.f) (l[i]).f=P):=by
     intro P hP hh SS;refine Si WM.out HNI.out (by simpa using hP) ?_ ?_
     ·intro k E oC;have:=hh k (by simpa using E) oC;simpa using this
     ·intro k E oC;have:=SS k (by simpa using E) oC;simpa using this
    have HCK:Hid (∀W (k:Nat) (E:k<out.length),Below wr.heap.size wr W->A<W.heap.size/\W.cell? ⟨A,k*2,none⟩=some (.string (out[k]).pred)/\W.cell? ⟨A,k*2+1,none⟩=some (out[k]).av/\∃zd zn zc,(out[k]).av=.slice zd zn zc):=by
     intro W k E F;obtain⟨q1,q2⟩:=Jo.out W F;obtain⟨d,c,e⟩:=ah (HF.out.each _ (ab4 (H.out.sub _ (IN E))));exact⟨q1,q2 _ _ (cP out k E).1,q2 _ _ (cP out k E).2,d,_,c,e⟩
    have Dh:=aj aF;have jX:Hid (∀W Hk Hh (p:Nat),Below w.heap.size w W->Rf.AW (out.map FI.f) (l[i]).f=p->W.ownsRow w.heap.size 48 2 (.slice Hk (p+1+(out.length-p)) Hh) (p+1+(out.length-p)) (ax (out.take p)++[.string (l[i]).pred,.slice I (l[i]).args.length J]++ax (out.drop p))->p<=out.length->Hid (OW w 0 l (i+1) Hk Hh (out.take p++l[i]::out.drop p) W)/\(out.take p++l[i]::out.drop p).length=p+1+(out.length-p)):=by
     have V:=sW.out;rw[hy]at V;exact V
    generalize Ve:(l[i]).f=xf at*;have hmx:=h1;generalize hli:l[i]=xi at*;generalize xi.pred=X at*;generalize xi.args.length=xn at*;clear H sW hy Q1 HNI WM aF c0 c1 hg Cd hot Jv YW ajn HF HN Sa fK Ve hli Jo;obtain⟨ZJ,rfl⟩:∃W,W=wr:=⟨_,rfl⟩;have HOL:=aj jE;have aqe:out.length<=1000:=by omega
    clear jE
    go_wp2_with fail
    go_loopw [5] (λav wq=>∃p:Nat,p<=out.length/\av=.int .i64 p/\Hid (∀k (E:k<out.length),p<=k->Tb.cr (Rf.enc xf) (Rf.enc (out[k]).f)<0)/\Hid (Below ZJ.heap.size ZJ wq)) (λav _=>(intOf av).toNat)
    ·exact⟨out.length,OF _,rfl,λk E oC=>by omega,aaj _ _⟩
    ·
     obtain⟨p,hp,rfl,HH,RZ⟩:=hrel;cases p with
     | zero=>
      have SZ:Hid (Rf.AW (out.map FI.f) xf=0):=Ze.out 0 (IS _) HH.out (λk E e=>by omega);have hz9:decide ((0:Int)<((0:Nat):Int))=false:=by simp
      clear HH Ze R1;have x:=aj RZ.out;obtain⟨m1,m2,m3⟩:=RR.out wr x.out;have cE:=x.out.size
      go_wp2_with (first | (at_builtin;refine abp _ rfl (.tmp 37) (.tmp 42) 37 rfl wr.heap.size 48 N _ 2 40 abX t.out.1 t.out.2.1 t.out.2.2.1 t.out.2.2.2 rfl (by decide) (.slice none 0 0) 0 [] rfl (aaM _ _ _ _) ⟨wr.heap.size,0,none⟩ 1 1 [.string X,.slice I xn J] rfl rfl (abC (By _ _)) (by simp[Value.oneCell']) eI (by omega) (by simp) ?_;intro v4 Z dL dv _;obtain⟨od4,oc4,rfl⟩:=ah dL;have O:Hid (Below wr.heap.size wr Z):=aM.grown dv (by simp) (λq Y=>by cases Y);have UL:=aj dL;have RL:Hid ((ax (out.drop 0)).length=(out.length-0)*2/\∀j u,(ax (out.drop 0))[j]?=some u->Z.cell? ((⟨A,0*2,none⟩:Addr).add j)=some u):=HDR.out Z 0 (x.out.trans (O.out.mono x.out.size)) (IS _);have UQ:=O.out.size;clear dL dv) | (at_builtin;refine dB rfl (.tmp 44) (.tmp 47) 37 rfl wr.heap.size 48 N _ 2 40 abX t.out.1 t.out.2.1 t.out.2.2.1 t.out.2.2.2 rfl (by decide) (.slice od4 1 oc4) 1 [.string X,.slice I xn J] rfl UL.out ⟨A,0,none⟩ out.length U (ax (out.drop 0)) (by first | rfl | simp[Act.eval,Act.put]) RL.out.1 RL.out.2 (rM.out _ (λz y=>acY y)) eI (by omega) UQ ?_;intro v5 M gB fB;obtain⟨Lk,Ma,rfl⟩:=ah gB;have qA:Hid (Below wr.heap.size wr M):=O.out.grown fB O.out.size (λq Y=>(UL.out.lt q Y).1);have Xy:Hid (M.ownsRow wr.heap.size 48 2 (.slice Lk (1+out.length) Ma) (1+out.length) ([.string X,.slice I xn J]++ax (out.drop 0))):=gB))
      go_roundw
      ·
       have Mk:Below w.heap.size w M:=Dh.out.trans ((x.out.trans (qA.out.mono x.out.size)).mono Dh.out.size);obtain⟨q1,q2⟩:=jX.out M Lk Ma 0 Mk SZ.out (by have V:=aD Xy.out (b':=w.heap.size) (by have:=Dh.out.size;omega);simpa [ax,Nat.add_comm]using V) (IS _);refine⟨i+1,Lk,Ma,out.take 0++xi::out.drop 0,h1,by go_num, ?_,q1⟩;rw[q2];simp[Nat.add_comm]
      ·(simp[intOf];omega)
     | succ p=>
      have hpo:p<out.length:=by omega
      have hz9:decide ((0:Int)<((p+1:Nat):Int))=true:=by simp
      obtain⟨m1,m2,m3⟩:=RR.out wr RZ.out;obtain⟨n1,n2,n3,n4⟩:=HCK.out wr p hpo RZ.out;have HLC:Hid (∀W,Below wr.heap.size wr W->Calls prog 211 #[.agg #[.string X,.slice I xn J],.agg #[.string (out[p]).pred,(out[p]).av]] W λe w'=>e=.returned (.bool (decide (Tb.cr (Rf.enc xf) (Rf.enc (out[p]).f)<0)))/\Hid (Below ZJ.heap.size ZJ w')):=by
       intro W F;have hb:=RZ.out.trans (F.mono RZ.out.size);refine(R1.out W p hpo hb).mono ?_;rintro e w' ⟨rfl,V⟩;exact⟨rfl,hb.trans (V.mono hb.size)⟩
      have ZI:Hid (¬Tb.cr (Rf.enc xf) (Rf.enc (out[p]).f)<0->Rf.AW (out.map FI.f) xf=p+1):=λhn=>Ze.out (p+1) hp HH.out (λk E e=>(by have e9:k=p:=(by omega);subst e9;first | exact hn | exact Int.not_lt.1 hn));have HHN:Hid (Tb.cr (Rf.enc xf) (Rf.enc (out[p]).f)<0->∀k (E:k<out.length),p<=k->Tb.cr (Rf.enc xf) (Rf.enc (out[k]).f)<0):=by
       intro hn k E hpk;rcases Nat.lt_or_ge p k with V | V
       ·exact HH.out k E (by omega)
       ·obtain rfl:k=p:=by omega
        exact hn
      generalize hD:decide (Tb.cr (Rf.enc xf) (Rf.enc (out[p]).f)<0)=D at*;have HD:=aj hD;obtain⟨zd,zn,zc,hzv⟩:=n4;rw[hzv]at n3 HLC;generalize (out[p]).pred=op at*;have i3:(0:Int)<=(p:Int):=by omega
      have i4:(p:Int)<out.length:=by omega
      have rA:((p+1:Nat):Int)-1=(p:Int):=by omega
      have dA:IntKind.i64.wrap ((p:Int)+1-1)=(p:Int):=by rw[aaR];omega
      have i5:(0:Int)<=(p:Int)+1-1:=by omega
      have i6:(p:Int)+1-1<(out.length:Int):=by omega
      have i7:((p:Int)+1-1).toNat=p:=by omega
      have xO:IntKind.i64.wrap (p:Int)=(p:Int):=by rw[aaR];omega
      have pZ:IntKind.i64.wrap (((p+1:Nat):Int)-1)=(p:Int):=by rw[aaR];omega
      have aom:=aj RZ.out;clear hD HH Ze R1 hzv HCK
      go_upto_region 7 with fail
      go_cut [6]from 16 to 31 (λcv wx=>cv=.bool D/\Hid (Below ZJ.heap.size ZJ wx))
      ·
       go_region_with (go_at_call 211;refine(HLC.out _ (by exact(aaj _ _).drew)).mono ?_;rintro e M ⟨rfl,fR⟩)
       all_goals (go_wp2_with fail;go_meet;exact⟨by rfl,fR⟩)
      ·
       obtain⟨rfl,RZ⟩:=hcut;cases D with
       | true=>
        have HK:=HHN.out (aei HD.out);clear ZI HHN
        go_wp2_with fail
        go_roundw
        ·exact⟨p,by omega,by go_num,HK,RZ⟩
        ·(simp[intOf])
       | false=>
        have SZ:=ZI.out (of_decide_eq_false HD.out);clear ZI HHN;have hoc:out.length<=U:=kM;by_cases qW:U=p+1
        ·have HEM:Hid (∀W j u,(ax (out.drop (p+1)))[j]?=some u->World.cell? W ((⟨A,0,none⟩:Addr).add j)=some u):=by
          intro W j u B;rw[abG (by omega)]at B;simp[ax]at B
         subst qW;have x:=aj RZ.out;have cE:=x.out.size;have Ez:p+1<=out.length:=by omega
         have k1:(0:Int)<=((p+1:Nat):Int):=by omega
         have k2:((p+1:Nat):Int)<=(out.length:Int):=by omega
         have k3:((p+1:Nat):Int)<=((p+1:Nat):Int):=by omega
         have Jf:Hid ((ax (out.take (p+1))).length=(p+1)*2/\∀j u,(ax (out.take (p+1)))[j]?=some u->wc.cell? ((⟨A,0,none⟩:Addr).add j)=some u):=tL.out wc (p+1) x.out Ez;have ZC:Hid (wc.heap.size<=wc.heap.size):=OF _
         go_wp2_with (first | (at_builtin;refine dB rfl (.tmp 32) (.tmp 35) 37 rfl wc.heap.size 48 N _ 2 40 abX t.out.1 t.out.2.1 t.out.2.2.1 t.out.2.2.2 rfl (by decide) (.slice none 0 0) 0 [] rfl (aaM _ _ _ _) ⟨A,0,none⟩ (p+1) (p+1) (ax (out.take (p+1))) rfl Jf.out.1 Jf.out.2 (rM.out _ (λz y=>ab4 y)) eI (by omega) (OF _) ?_;intro v3 w3 cm dk;rw[acm,acp]at cm;obtain⟨VG,Vf,rfl⟩:=ah cm;have qI:Hid (Below wc.heap.size wc w3):=iY dk;have Ot:=aj cm;obtain⟨m1,m2,m3⟩:=RR.out w3 (x.out.trans (qI.out.mono x.out.size));have hz3:=qI.out.size;clear cm dk) | (at_builtin;refine abp _ rfl (.tmp 37) (.tmp 42) 37 rfl wc.heap.size 48 N _ 2 40 abX t.out.1 t.out.2.1 t.out.2.2.1 t.out.2.2.2 rfl (by decide) (.slice VG (p+1) Vf) (p+1) (ax (out.take (p+1))) rfl (Ot.out.alloc _) ⟨w3.heap.size,0,none⟩ 1 1 [.string X,.slice I xn J] rfl rfl (abC (By _ _)) (by simp[Value.oneCell']) eI (by omega) (by simp;omega) ?_;intro v4 Z dL dv _;obtain⟨od4,oc4,rfl⟩:=ah dL;have O:Hid (Below wc.heap.size wc Z):=(qI.out.alloc qI.out.size _).grown dv (by simp;omega) (λq Y=>(Ot.out.lt q Y).1);have UL:=aj dL;have RL:Hid ((ax (out.drop (p+1))).length=(out.length-(p+1))*2/\∀j u,(ax (out.drop (p+1)))[j]?=some u->Z.cell? ((⟨A,(p+1)*2,none⟩:Addr).add j)=some u):=HDR.out Z (p+1) (x.out.trans (O.out.mono x.out.size)) Ez;have UQ:=O.out.size;clear dL dv) | (at_builtin;refine dB rfl (.tmp 44) (.tmp 47) 37 rfl wc.heap.size 48 N _ 2 40 abX t.out.1 t.out.2.1 t.out.2.2.1 t.out.2.2.2 rfl (by decide) (.slice od4 (p+1+1) oc4) (p+1+1) (ax (out.take (p+1))++[.string X,.slice I xn J]) rfl UL.out ⟨A,0,none⟩ (out.length-(p+1)) (p+1-(p+1)) (ax (out.drop (p+1))) (by first | rfl | (simp[Act.eval,Act.put];omega)) RL.out.1 (HEM.out Z) (rM.out _ (λz y=>acY y)) eI (by omega) UQ ?_;intro v5 M gB fB;obtain⟨Lk,Ma,rfl⟩:=ah gB;have qA:Hid (Below wc.heap.size wc M):=O.out.grown fB O.out.size (λq Y=>(UL.out.lt q Y).1);have Xy:Hid (M.ownsRow wc.heap.size 48 2 (.slice Lk (p+1+1+(out.length-(p+1))) Ma) (p+1+1+(out.length-(p+1))) (ax (out.take (p+1))++[.string X,.slice I xn J]++ax (out.drop (p+1)))):=gB))
         go_roundw
         ·
          have Mk:Below w.heap.size w M:=Dh.out.trans ((x.out.trans (qA.out.mono x.out.size)).mono Dh.out.size);obtain⟨q1,q2⟩:=jX.out M Lk Ma (p+1) Mk SZ (aD Xy.out (by have:=Dh.out.size;omega)) Ez;exact⟨i+1,Lk,Ma,_,h1,by go_num,by rw[q2];congr 1;omega,q1⟩
         ·(simp[intOf];omega)
        ·skip;have x:=aj RZ.out;have cE:=x.out.size;have Ez:p+1<=out.length:=by omega
         have k1:(0:Int)<=((p+1:Nat):Int):=by omega
         have k2:((p+1:Nat):Int)<=(out.length:Int):=by omega
         have k3:((p+1:Nat):Int)<=(U:Int):=by omega
         have Jf:Hid ((ax (out.take (p+1))).length=(p+1)*2/\∀j u,(ax (out.take (p+1)))[j]?=some u->wc.cell? ((⟨A,0,none⟩:Addr).add j)=some u):=tL.out wc (p+1) x.out Ez;have ZC:Hid (wc.heap.size<=wc.heap.size):=OF _
         go_wp2_with (first | (at_builtin;refine dB rfl (.tmp 32) (.tmp 35) 37 rfl wc.heap.size 48 N _ 2 40 abX t.out.1 t.out.2.1 t.out.2.2.1 t.out.2.2.2 rfl (by decide) (.slice none 0 0) 0 [] rfl (aaM _ _ _ _) ⟨A,0,none⟩ (p+1) U (ax (out.take (p+1))) rfl Jf.out.1 Jf.out.2 (rM.out _ (λz y=>ab4 y)) eI (by omega) (OF _) ?_;intro v3 w3 cm dk;rw[acm,acp]at cm;obtain⟨VG,Vf,rfl⟩:=ah cm;have qI:Hid (Below wc.heap.size wc w3):=iY dk;have Ot:=aj cm;obtain⟨m1,m2,m3⟩:=RR.out w3 (x.out.trans (qI.out.mono x.out.size));have hz3:=qI.out.size;clear cm dk) | (at_builtin;refine abp _ rfl (.tmp 37) (.tmp 42) 37 rfl wc.heap.size 48 N _ 2 40 abX t.out.1 t.out.2.1 t.out.2.2.1 t.out.2.2.2 rfl (by decide) (.slice VG (p+1) Vf) (p+1) (ax (out.take (p+1))) rfl (Ot.out.alloc _) ⟨w3.heap.size,0,none⟩ 1 1 [.string X,.slice I xn J] rfl rfl (abC (By _ _)) (by simp[Value.oneCell']) eI (by omega) (by simp;omega) ?_;intro v4 Z dL dv _;obtain⟨od4,oc4,rfl⟩:=ah dL;have O:Hid (Below wc.heap.size wc Z):=(qI.out.alloc qI.out.size _).grown dv (by simp;omega) (λq Y=>(Ot.out.lt q Y).1);have UL:=aj dL;have RL:Hid ((ax (out.drop (p+1))).length=(out.length-(p+1))*2/\∀j u,(ax (out.drop (p+1)))[j]?=some u->Z.cell? ((⟨A,(p+1)*2,none⟩:Addr).add j)=some u):=HDR.out Z (p+1) (x.out.trans (O.out.mono x.out.size)) Ez;have UQ:=O.out.size;clear dL dv) | (at_builtin;refine dB rfl (.tmp 44) (.tmp 47) 37 rfl wc.heap.size 48 N _ 2 40 abX t.out.1 t.out.2.1 t.out.2.2.1 t.out.2.2.2 rfl (by decide) (.slice od4 (p+1+1) oc4) (p+1+1) (ax (out.take (p+1))++[.string X,.slice I xn J]) rfl UL.out ⟨A,(p+1)*2,none⟩ (out.length-(p+1)) (U-(p+1)) (ax (out.drop (p+1))) (by first | rfl | simp[Act.eval,Act.put]) RL.out.1 RL.out.2 (rM.out _ (λz y=>acY y)) eI (by omega) UQ ?_;intro v5 M gB fB;obtain⟨Lk,Ma,rfl⟩:=ah gB;have qA:Hid (Below wc.heap.size wc M):=O.out.grown fB O.out.size (λq Y=>(UL.out.lt q Y).1);have Xy:Hid (M.ownsRow wc.heap.size 48 2 (.slice Lk (p+1+1+(out.length-(p+1))) Ma) (p+1+1+(out.length-(p+1))) (ax (out.take (p+1))++[.string X,.slice I xn J]++ax (out.drop (p+1)))):=gB))
         go_roundw
         ·
          have Mk:Below w.heap.size w M:=Dh.out.trans ((x.out.trans (qA.out.mono x.out.size)).mono Dh.out.size);obtain⟨q1,q2⟩:=jX.out M Lk Ma (p+1) Mk SZ (aD Xy.out (by have:=Dh.out.size;omega)) Ez;exact⟨i+1,Lk,Ma,_,h1,by go_num,by rw[q2],q1⟩
         ·(simp[intOf];omega)
  ·have gD:decide ((i:Int)<l.length)=false:=aab (by omega);have hil:i=l.length:=by omega
   have H9:Hid (OW w 0 l l.length od U out wr):=by rw[<-hil];exact H.out
   clear H aF jE hil
   go_wp2_with fail
   go_ret;exact⟨od,U,out,rfl,H9.out⟩
variable{e:List Ax.Atom}{T:List Ax.Tok}{i j q f:Nat}{w w':World}
theorem qj{F}[DecidableEq F]{f}:∀{l:List F},f∈l->l[rz l f]?=some f
 | [],h=>by cases h
 | a::l,h=>by
  by_cases e:a=f
  ·simp[rz,e]
  ·have hm:f∈l:=by
    rcases BY.1 h with h | h
    ·exact absurd h.symm e
    ·exact h
   have i:rz (a::l) f=rz l f+1:=by simp[rz,e]
   rw[i,abY];exact qj hm
namespace Rf
open En
theorem pO{rs}(h:Ac rs){r}(i:r∈rs){l}(q:∀f,f∈l->iR rs f)(j:l.length<=200):(fI r.head l r.body []).length<=40000:=by
 have e:=abu List.length (wI h i q);rw[aaL]at e;rw[e];refine aaK (List.length_filterMap_le _ _) ?_;exact En.Ov _ _ (h.ok.two r i) (by simpa using j)
def cl(M D:List ba):List Nat:=M.map λx=>dW D x
theorem JR(M D):(cl M D).length=M.length:=by simp[cl]
theorem DS{M D}{k:Nat}{x:ba}(e:M[k]?=some x):(cl M D)[k]?=some (dW D x):=by simp[cl,e]
theorem Np(D)(x:ba):dW D x<=D.length:=by
 induction D with
 | nil=>simp[rH]
 | cons a D ih=>rw[lU,abL];split<;>omega
theorem TY{M D}{x:ba}(w:M.Nodup)(u:x∈M):cl M (D++[x])=(cl M D).set (rz M x) (dW D x+1):=by
 have j:=qj u;refine List.ext_getElem? ?_;intro k;rw[List.getElem?_set,JR];rcases Nat.lt_or_ge k M.length with i | i
 ·have q:M[k]?=some M[k]:=AS i;rw[DS q,qL,lU,rH];by_cases e:rz M x=k
  ·grind
  ·rw[aaD e,DS q];have A:x≠M[k]:=by
    intro y;obtain⟨B,t⟩:=abt.1 j;exact e ((List.getElem_inj w).1 (t.trans y))
   rw[aaD A];simp
 ·rw[List.getElem?_eq_none (by rw[JR];exact i)];rw[aaD (by have:=(abt.1 j).1;omega),List.getElem?_eq_none (by rw[JR];exact i)]
def om(rs:List Ax.aI)(M:List ba)(i:Nat):List ba:=(rs.take i).flatMap λr=>fI r.head M r.body []
theorem Cu{rs M}(e:i<rs.length):om rs M (i+1)=om rs M i++fI rs[i].head M rs[i].body []:=by
 unfold om;rw[aaZ,AS e,abQ];simp
theorem Fb{rs}(h:Ac rs){M}(j:∀f,f∈M->iR rs f)(e:M.length<=200):∀i,i<=rs.length->(om rs M i).length<=40000*i
 | 0,_=>by simp[om]
 | i+1,q=>by
  rw[Cu (by omega),If];have u:=Fb h j e i (by omega);have t:=pO h (IN (l:=rs) (n:=i) (by omega)) j e;omega
theorem RK(rs M):om rs M rs.length=rs.flatMap λr=>fI r.head M r.body []:=by
 unfold om;rw[abS]
end Rf
theorem dz.kb{S rd rc l}(h:dz w rd rc l)(t:Kb S w w')(u:∀b,b∈S->∀i U fz,w.heap[b]?=some (.cells i U fz)->U≠9/\U≠4/\U≠277/\U≠280):dz w' rd rc l:=by
 have y:∀x:QA,x.ok w->x.ok w':=λx q=>⟨t.aR q.1 (λb i fz j e=>(u b j _ _ _ e).1 rfl),t.aR q.2 (λb i fz j e=>(u b j _ _ _ e).2.1 rfl)⟩;refine⟨t.aR h.1 (λb i fz j e=>(u b j _ _ _ e).2.2.2 rfl),λr A=>?_⟩;obtain⟨⟨F,E,D⟩,B⟩:=h.2 r A;exact⟨⟨y _ F,t.aR E (λb i fz j e=>(u b j _ _ _ e).2.2.1 rfl),λx q=>y x (D x q)⟩,B⟩
theorem bl.kb{S B fd fc l}(h:bl w B fd fc l)(x:Kb S w w')(F:∀b,b∈S->B<=b->∀i U fz,w.heap[b]?=some (.cells i U fz)->U≠9/\U≠48):bl w' B fd fc l:=by
 have t:∀{e:TypeId} {sz:Nat} {v:Value} {n:Nat} {xs:List Value},w.ownsRow B e sz v n xs->(e=9\/e=48)->w'.ownsRow B e sz v n xs:=by
  intro e sz v n xs q D;refine x.row q ?_;intro b j E;have u:=(q.lt b j).1;rcases q.2 with⟨rfl,_⟩ | ⟨g,cap,i,rfl,_,y,_⟩
  ·cases j
  ·simp only[Value.ownBlock,AT]at j;subst j;have:=F _ E u _ _ _ y;rcases D with rfl | rfl
   ·exact this.1 rfl
   ·exact this.2 rfl
 exact⟨t h.row (.inr rfl),λf A=>t (h.each f A) (.inl rfl)⟩
theorem cu.kb1{B fd fc L}{t:Nat->Value}{g y fz}(h:cu w B j fd fc L t)(x:Kb [g] w w')(O:g<B)(F:w.heap[g]?=some (.cells y 3 fz)):cu w' B j fd fc L t:=by
 have M:j≠g:=by have:=h.ge;omega
 obtain⟨cs,D,I⟩:=h.aY;have A:w'.heap[j]?=w.heap[j]?:=x.block j (lt_of_heap D) (by simpa using M);have E:∀i,w'.cell? ⟨j,i,none⟩=w.cell? ⟨j,i,none⟩:=λi=>by simp only[World.cell?,A]
 refine⟨⟨cs,by rw[A];exact D,I⟩,by rw[E];exact h.c0,λk u=>by rw[E];exact h.cb k u, ?_, ?_, ?_,h.apart,h.ge⟩
 ·exact x.row h.row (λb q e=>by have:=(h.row.lt b q).1;simp at e;omega)
 ·intro f H;exact x.aR (h.each f H) (λb N J q e=>by simp at q;subst q;rw[F]at e;simp at e)
 ·intro k u;exact x.row (h.rows k u) (λb q e=>by have:=((h.rows k u).lt b q).1;simp at e;omega)
def dN(rv pv:Value)(pl:ByteArray)(gv mv cv:Value)(bs hd:ByteArray):Array Value:=#[rv,pv,.string pl,gv,mv,cv,.string bs,.string hd]
def oQ(w:World)(B0:Nat)(rs:List Ax.aI)(rv pv:Value)(pl:ByteArray)(gd:Option Addr)(gc:Nat)(G:List FI)(hd:ByteArray)(e:Ending)(w':World):Prop:=Below w.heap.size w w'/\
 match (if 40<G.length then none else Rf.tN rs 300 (G.map FI.f) true [])with
 | none=>e=.returned (.pointer none)
 | some M=>∃rg md mc out cv,e=.returned (.pointer (some ⟨rg,0,none⟩))/\w.heap.size<=rg/\w'.heap[rg]?=some (.cells (dN rv pv pl (.slice gd G.length gc) (.slice md (List.length out) mc) cv ByteArray.empty hd) 269 (0,0))/\bl w' B0 md mc out/\out.map FI.f=Rf.cS M/\w'.ownsRow w.heap.size 3 1 cv out.length (bM (Rf.cl (Rf.cS M) (rs.flatMap λr=>Rf.fI r.head (Rf.cS M) r.body [])))
/- axiomref: atom, the terms: the walk. -/
theorem Uw(w:World)(ld)(lc:Nat)(T)(i:Nat)(h:JW w ld lc T){t:Ax.Tok}(ht:Hid (T[i]?=some t))(hk:Hid (t.kind=2)){t':Ax.Tok}(rX:Hid (T[i+1]?=some t'))(nj:Hid (t'.kind=4)){R}(HR:Hid (FN T t (Ax.cf T T.length (i+1+1) [])=R)):
 Calls prog 207 #[.slice ld T.length lc,.int .i64 i] w λe w'=>D8 w R e w':=by
 have hT:=h.2.1;obtain⟨hi,_⟩:=iE ht.out;obtain⟨hi',_⟩:=iE rX.out;obtain⟨g',Tu,_,_,d0,_,_,j0,j8⟩:=h.cells rX.out;obtain⟨g,rfl,hg,hc,c0,c1,c2,k0,k8⟩:=h.cells ht.out;obtain rfl:g=g':=by simpa using Tu
 have hb:((Ax.kc t.kind:Int) != 110)=false:=nt (j:=2) k0 k8 (by decide) (by decide) hk.out;have iW:((Ax.kc t'.kind:Int) != 40)=false:=nt (j:=4) j0 j8 (by decide) (by decide) nj.out;have hi2:i+1+1<T.length:=h.2.2.1.next hi' (by rw[show T[i+1]=t' by assumption,nj.out];decide) (by rw[show T[i+1]=t' by assumption,nj.out];decide);generalize Ax.kc t.kind=K at*;generalize Ax.kc t'.kind=K' at*
 go_enter func207,ntmps207
 go_wp2_with fail
 go_region
 all_goals (go_wp2_with fail)
 clear c0 c1 c2 d0
 go_loopg [1] T.length (λf iv wr=>∃(q:Nat) (x:List Ax.Term) (td:Option Addr) (tc:Nat) (vd:Option Addr) (vc:Nat),q<T.length/\T.length<=q+f/\x.length<=q/\iv=.int .i64 q/\FN T t (Ax.cf T f q x)=R/\D7 w wr t (.slice td x.length tc) (.slice vd x.length vc) x.length x.length (x.map Ax.Term.text) (x.map isVar))
 ·
  refine⟨i+1+1,[],none,0,none,0,hi2,by omega,by simp,by go_num,HR.out,⟨?_, ?_,aaM _ _ _ _,aaM _ _ _ _,(aM.alloc (by simp) _).drew⟩⟩
  ·exact(aay _ _ _ (by simp)).trans (By _ _)
  ·have:=By (w.alloc (.cells #[.string ⟨#[]⟩,.slice none 0 0,.slice none 0 0,.int .i64 0] 277)) (.cells #[.string t.text,.slice none 0 0,.slice none 0 0,.int .i64 t.at_] 277);rw[abb]at this;exact this
 ·
  obtain⟨q,x,td,tc,vd,vc,hq,hf,Ur,rfl,hr,X⟩:=hrel;have I:=X.be;have W:=X.oT;have F:=X.oV;have GA:=aj hr;clear hr HR;obtain⟨f,He⟩:∃f,gk=f+1:=⟨gk-1,by omega⟩;subst He;obtain⟨u,hu0⟩:∃u,T[q]?=some u:=⟨_,AS hq⟩;have HU:=aj hu0;clear hu0;obtain⟨g2,ag7,jy,_,e0,e1,_,q0,q8⟩:=(h.below I).cells HU.out;obtain rfl:g=g2:=by simpa using ag7
  have cp:=I.size;have E0:Hid (w.cell? ⟨g,q*3,none⟩=some (.int .u8 (Ax.kc u.kind))):=(I.cell (p:=⟨g,q*3,none⟩) hg).symm.trans e0;obtain⟨a0,a1,a2,a3,Ub,UP,U2,U4,DB⟩:=bw X.b0;obtain⟨b0,b1,b2,b3,_,pA,qf,_,rE⟩:=bw X.b1;by_cases Zu:u.kind=2\/u.kind=3
  ·obtain⟨i9,ace,aaz,acT,abm⟩:=abF Tryz.O7;have hi9:=aj ace;have hz9:=aj aaz;have hs9:=aj acT;have hy9:=aj abm;clear ace aaz acT abm;obtain⟨i4,acu,ab5,acU,aaQ⟩:=abF Tryz.Pf;have hi4:=aj acu;have UQ:=aj ab5;have Xu:=aj acU;have hy4:=aj aaQ;clear acu ab5 acU aaQ;have P9:q+1<T.length:=by
    obtain⟨zW,e⟩:=iE HU.out;exact h.2.2.1.next zW (by rw[e];omega) (by rw[e];omega)
   obtain⟨u2,ZW⟩:∃u,T[q+1]?=some u:=⟨_,AS P9⟩;have Z4:=aj ZW;clear ZW;have SE:Ax.kP T q=(some ⟨u.kind-2,u.text⟩,q+1):=Ax.xP HU.out Zu;have oC:=Ax.cQ Z4.out;obtain⟨V,U⟩:=h.2.2.2 u2 (adW Z4.out);have hEa:((Ax.kc u2.kind:Nat):Int)=41->Hid (R=(some ⟨t.at_,t.text,x++[⟨u.kind-2,u.text⟩]⟩,q+1+1)):=by
    intro hm;have hm:u2.kind=5:=by
     have:=Ax.xY u2.kind V U 5 (by decide) (by decide);rw[show((Ax.kc 5:Nat):Int)=41 by rfl,hm]at this;simpa using this.symm
    rw[<-GA.out,Ax.oO SE (by rw[oC,hm];decide)];simp[Hid,FN,oC,hm]
   have hEb:¬((Ax.kc u2.kind:Nat):Int)=41->¬((Ax.kc u2.kind:Nat):Int)=44->Hid (R=(none,q+1)):=by
    intro hm Ex;have hm:¬u2.kind=5:=by rintro e;rw[e]at hm;exact hm rfl
    have Ex:¬u2.kind=6:=by rintro e;rw[e]at Ex;exact Ex rfl
    rw[<-GA.out,Ax.oO SE (by rw[oC];exact Ex)];simp[Hid,FN,oC,hm]
   have hEc:((Ax.kc u2.kind:Nat):Int)=44->Hid (FN T t (Ax.cf T f (q+1+1) (x++[⟨u.kind-2,u.text⟩]))=R)/\q+1+1<T.length:=by
    intro Ex;have Ex:u2.kind=6:=by
     have:=Ax.xY u2.kind V U 6 (by decide) (by decide);rw[show((Ax.kc 6:Nat):Int)=44 by rfl,Ex]at this;simpa using this.symm
    obtain⟨zW,e⟩:=iE Z4.out;refine⟨?_,h.2.2.1.next zW (by rw[e];omega) (by rw[e];omega)⟩;rw[<-GA.out,Ax.BA SE (by rw[oC];exact Ex)];rfl
   have HEa:=aj hEa;have HEb:=aj hEb;have HEc:=aj hEc;clear hEa hEb hEc SE oC GA;rcases Zu with hn | hn
   ·have n1:((Ax.kc u.kind:Int) != 110)=false:=nt (j:=2) q0 q8 (by decide) (by decide) hn;have n2:((Ax.kc u.kind:Int)==118)=false:=Ji (j:=3) q0 q8 (by omega);have HV:Hid (isVar ⟨u.kind-2,u.text⟩=false):=by simp[Hid,isVar,hn]
    clear hn
    go_upto_region 9 with fail
    go_cut [1]from 39 to 96 (λiv wx=>iv=.int .i64 q/\∃B y,D7 w wx t (.slice (some ⟨B,0,none⟩) (x.length+1) y) (.slice vd x.length vc) (x.length+1) x.length (x.map Ax.Term.text++[u.text]) (x.map isVar))
    ·
     go_region_law (refine aed _ rfl (.tmp 56) (.tmp 62) 46 rfl w.heap.size 9 i9 _ 1 16 ab2 hi9.out hz9.out hs9.out hy9.out rfl (by decide) (.slice td x.length tc) x.length (strCells (x.map Ax.Term.text)) (by simp[Act.eval,Act.put]) (by exact W.alloc _) ⟨wr.heap.size,0,none⟩ 1 1 [.string u.text] (by simp[Act.eval,Act.put]) rfl (by exact dn _ _ _) (by simp[Value.oneCell']) (by decide) eI (by omega) (by simp;omega) (wr.heap.size+1) (by simp) ?_;intro B y w3 cm dk _ ail;obtain⟨N,I4,qN⟩:=X.grown (cJ (w:=wr.alloc (.cells #[.string u.text] 9)) dk) (au (W.alloc _)) (λk hk=>(W.lt k hk).1) (by decide);have hV3:=aB (F.alloc (.cells #[.string u.text] 9)) (cJ (w:=wr.alloc (.cells #[.string u.text] 9)) dk) (au (W.alloc _));have A:=D7.aen N I4 qN (tv':=.slice (some ⟨B,0,none⟩) (x.length+1) y) (lT:=x.map Ax.Term.text++[u.text]) (by rw[oZ];exact cm) hV3;obtain⟨a03,a13,a23,a33,ago,ahY,ajz,ahQ,agU⟩:=bw N;obtain⟨b03,b13,b23,b33,_,ajJ,aiv,_,af5⟩:=bw I4)
     all_goals (go_wp2_with fail)
     all_goals go_meet
     all_goals exact⟨rfl,B,y,A⟩
    ·
     obtain⟨rfl,B,y,A⟩:=hcut;clear X W F a0 a1 a2 a3 Ub UP U2 U4 DB b0 b1 b2 b3 pA qf rE e0 e1 I jy cp;have I:=A.be;have cp:=I.size;have F:=A.oV;obtain⟨a0,a1,a2,a3,Ub,UP,U2,U4,DB⟩:=bw A.b0;obtain⟨b0,b1,b2,b3,_,pA,qf,_,rE⟩:=bw A.b1;have e0:=(I.cell (p:=⟨g,q*3,none⟩) hg).trans E0.out
     go_upto_region 10 with fail
     go_cut [1]from 39 to 96 (λiv wx=>iv=.int .i64 q/\∃E D,D7 w wx t (.slice (some ⟨B,0,none⟩) (x.length+1) y) (.slice (some ⟨E,0,none⟩) (x.length+1) D) (x.length+1) (x.length+1) (x.map Ax.Term.text++[u.text]) (x.map isVar++[false]))
     ·
      go_region_law (refine aed _ rfl (.tmp 66) (.tmp 73) 35 rfl w.heap.size 4 i4 _ 1 1 Tryz.underlying35 hi4.out UQ.out Xu.out hy4.out rfl (by decide) (.slice vd x.length vc) x.length (dm (x.map isVar)) (by simp[Act.eval,Act.put]) (by exact F.alloc _) ⟨wc.heap.size,0,none⟩ 1 1 [.bool false] (by simp[Act.eval,Act.put]) rfl (by exact dn _ _ _) (by simp[Value.oneCell']) (by decide) eI (by omega) (by simp;omega) (wc.heap.size+1) (by simp) ?_;intro E D w5 gB fB _ X7;obtain⟨M,J,oH⟩:=A.grown (cJ (w:=wc.alloc (.cells #[.bool false] 4)) fB) (au (F.alloc _)) (λk hk=>(F.lt k hk).1) (by decide);have Y7:=aB (A.oT.alloc (.cells #[.bool false] 4)) (cJ (w:=wc.alloc (.cells #[.bool false] 4)) fB) (au (F.alloc _));have H:=D7.aba M J oH (vv':=.slice (some ⟨E,0,none⟩) (x.length+1) D) (lV:=x.map isVar++[false]) Y7 (by rw[ph];exact gB);obtain⟨a05,a15,a25,a35,ajI,agS,ahS,agu,ag2⟩:=bw M;obtain⟨b05,b15,b25,b35,_,ahj,agm,_,agK⟩:=bw J)
      all_goals (go_wp2_with fail)
      all_goals go_meet
      all_goals exact⟨rfl,E,D,H⟩
     ·
      obtain⟨rfl,E,D,H⟩:=hcut;clear A F a0 a1 a2 a3 Ub UP U2 U4 DB b0 b1 b2 b3 pA qf rE e0 I cp;have oH:=H.be;have cp:=oH.size;obtain⟨a0,a1,a2,a3,Ub,UP,U2,U4,DB⟩:=bw H.b0;obtain⟨b0,b1,b2,b3,_,pA,qf,_,rE⟩:=bw H.b1;obtain⟨g6,YC,_,_,e05,_,_,_,_⟩:=(h.below oH).cells Z4.out;obtain rfl:g=g6:=by simpa using YC
      obtain⟨hu,bu,Z,Y⟩:=H.finish;by_cases O:u2.kind=5
      ·have m1:((Ax.kc u2.kind:Int)==41)=true:=OC (j:=5) V U O;have HE:=HEa.out (by simpa using m1);clear O
       go_wp2_with fail
       all_goals exact aaT (v:=.tuple #[.agg #[.string t.text,.slice (some ⟨B,0,none⟩) (x.length+1) y,.slice (some ⟨E,0,none⟩) (x.length+1) D,.int .i64 t.at_],.int .i64 (q+1+1),.bool true]) (by simp[results,Tryz.results207,go_sem,aq hu];done) rfl (zi HE HV bu Z Y)
      ·have m1:((Ax.kc u2.kind:Int)==41)=false:=Ji (j:=5) V U O;by_cases h6:u2.kind=6
       ·have m2:((Ax.kc u2.kind:Int) != 44)=false:=nt (j:=6) V U (by decide) (by decide) h6;obtain⟨HC,zW⟩:=HEc.out (by simpa using m2);clear O h6
        go_wp2_with fail
        all_goals (go_roundg f;(case measure=>omega);(case rel=>exact⟨q+1+1,x++[⟨u.kind-2,u.text⟩],some ⟨B,0,none⟩,y,some ⟨E,0,none⟩,D,zW,by omega,by simp;omega,by go_num,HC.out,Gm H HV⟩))
       ·have m2:((Ax.kc u2.kind:Int) != 44)=true:=tm (j:=6) V U (by decide) (by decide) h6;have HE:=HEb.out (by simpa using m1) (by simpa using m2);clear O h6
        go_wp2_with fail
        all_goals exact aaT (v:=.tuple #[.agg #[.string t.text,.slice (some ⟨B,0,none⟩) (x.length+1) y,.slice (some ⟨E,0,none⟩) (x.length+1) D,.int .i64 t.at_],.int .i64 (q+1),.bool false]) (by simp[results,Tryz.results207,go_sem,aq hu];done) rfl (ud HE bu)
   ·have n1:((Ax.kc u.kind:Int) != 110)=true:=tm (j:=2) q0 q8;have n3:((Ax.kc u.kind:Int) != 118)=false:=nt (j:=3) q0 q8 (by decide) (by decide) hn;have n2:((Ax.kc u.kind:Int)==118)=true:=OC (j:=3) q0 q8 hn;have HV:Hid (isVar ⟨u.kind-2,u.text⟩=true):=by simp[Hid,isVar,hn]
    clear hn
    go_upto_region 9 with fail
    go_cut [1]from 39 to 96 (λiv wx=>iv=.int .i64 q/\∃B y,D7 w wx t (.slice (some ⟨B,0,none⟩) (x.length+1) y) (.slice vd x.length vc) (x.length+1) x.length (x.map Ax.Term.text++[u.text]) (x.map isVar))
    ·
     go_region_law (refine aed _ rfl (.tmp 56) (.tmp 62) 46 rfl w.heap.size 9 i9 _ 1 16 ab2 hi9.out hz9.out hs9.out hy9.out rfl (by decide) (.slice td x.length tc) x.length (strCells (x.map Ax.Term.text)) (by simp[Act.eval,Act.put]) (by exact W.alloc _) ⟨wr.heap.size,0,none⟩ 1 1 [.string u.text] (by simp[Act.eval,Act.put]) rfl (by exact dn _ _ _) (by simp[Value.oneCell']) (by decide) eI (by omega) (by simp;omega) (wr.heap.size+1) (by simp) ?_;intro B y w3 cm dk _ ail;obtain⟨N,I4,qN⟩:=X.grown (cJ (w:=wr.alloc (.cells #[.string u.text] 9)) dk) (au (W.alloc _)) (λk hk=>(W.lt k hk).1) (by decide);have hV3:=aB (F.alloc (.cells #[.string u.text] 9)) (cJ (w:=wr.alloc (.cells #[.string u.text] 9)) dk) (au (W.alloc _));have A:=D7.aen N I4 qN (tv':=.slice (some ⟨B,0,none⟩) (x.length+1) y) (lT:=x.map Ax.Term.text++[u.text]) (by rw[oZ];exact cm) hV3;obtain⟨a03,a13,a23,a33,ago,ahY,ajz,ahQ,agU⟩:=bw N;obtain⟨b03,b13,b23,b33,_,ajJ,aiv,_,af5⟩:=bw I4)
     all_goals (go_wp2_with fail)
     all_goals go_meet
     all_goals exact⟨rfl,B,y,A⟩
    ·
     obtain⟨rfl,B,y,A⟩:=hcut;clear X W F a0 a1 a2 a3 Ub UP U2 U4 DB b0 b1 b2 b3 pA qf rE e0 e1 I jy cp;have I:=A.be;have cp:=I.size;have F:=A.oV;obtain⟨a0,a1,a2,a3,Ub,UP,U2,U4,DB⟩:=bw A.b0;obtain⟨b0,b1,b2,b3,_,pA,qf,_,rE⟩:=bw A.b1;have e0:=(I.cell (p:=⟨g,q*3,none⟩) hg).trans E0.out
     go_upto_region 10 with fail
     go_cut [1]from 39 to 96 (λiv wx=>iv=.int .i64 q/\∃E D,D7 w wx t (.slice (some ⟨B,0,none⟩) (x.length+1) y) (.slice (some ⟨E,0,none⟩) (x.length+1) D) (x.length+1) (x.length+1) (x.map Ax.Term.text++[u.text]) (x.map isVar++[true]))
     ·
      go_region_law (refine aed _ rfl (.tmp 66) (.tmp 73) 35 rfl w.heap.size 4 i4 _ 1 1 Tryz.underlying35 hi4.out UQ.out Xu.out hy4.out rfl (by decide) (.slice vd x.length vc) x.length (dm (x.map isVar)) (by simp[Act.eval,Act.put]) (by exact F.alloc _) ⟨wc.heap.size,0,none⟩ 1 1 [.bool true] (by simp[Act.eval,Act.put]) rfl (by exact dn _ _ _) (by simp[Value.oneCell']) (by decide) eI (by omega) (by simp;omega) (wc.heap.size+1) (by simp) ?_;intro E D w5 gB fB _ X7;obtain⟨M,J,oH⟩:=A.grown (cJ (w:=wc.alloc (.cells #[.bool true] 4)) fB) (au (F.alloc _)) (λk hk=>(F.lt k hk).1) (by decide);have Y7:=aB (A.oT.alloc (.cells #[.bool true] 4)) (cJ (w:=wc.alloc (.cells #[.bool true] 4)) fB) (au (F.alloc _));have H:=D7.aba M J oH (vv':=.slice (some ⟨E,0,none⟩) (x.length+1) D) (lV:=x.map isVar++[true]) Y7 (by rw[ph];exact gB);obtain⟨a05,a15,a25,a35,ajI,agS,ahS,agu,ag2⟩:=bw M;obtain⟨b05,b15,b25,b35,_,ahj,agm,_,agK⟩:=bw J)
      all_goals (go_wp2_with fail)
      all_goals go_meet
      all_goals exact⟨rfl,E,D,H⟩
     ·
      obtain⟨rfl,E,D,H⟩:=hcut;clear A F a0 a1 a2 a3 Ub UP U2 U4 DB b0 b1 b2 b3 pA qf rE e0 I cp;have oH:=H.be;have cp:=oH.size;obtain⟨a0,a1,a2,a3,Ub,UP,U2,U4,DB⟩:=bw H.b0;obtain⟨b0,b1,b2,b3,_,pA,qf,_,rE⟩:=bw H.b1;obtain⟨g6,YC,_,_,e05,_,_,_,_⟩:=(h.below oH).cells Z4.out;obtain rfl:g=g6:=by simpa using YC
      obtain⟨hu,bu,Z,Y⟩:=H.finish;by_cases O:u2.kind=5
      ·have m1:((Ax.kc u2.kind:Int)==41)=true:=OC (j:=5) V U O;have HE:=HEa.out (by simpa using m1);clear O
       go_wp2_with fail
       all_goals exact aaT (v:=.tuple #[.agg #[.string t.text,.slice (some ⟨B,0,none⟩) (x.length+1) y,.slice (some ⟨E,0,none⟩) (x.length+1) D,.int .i64 t.at_],.int .i64 (q+1+1),.bool true]) (by simp[results,Tryz.results207,go_sem,aq hu];done) rfl (zi HE HV bu Z Y)
      ·have m1:((Ax.kc u2.kind:Int)==41)=false:=Ji (j:=5) V U O;by_cases h6:u2.kind=6
       ·have m2:((Ax.kc u2.kind:Int) != 44)=false:=nt (j:=6) V U (by decide) (by decide) h6;obtain⟨HC,zW⟩:=HEc.out (by simpa using m2);clear O h6
        go_wp2_with fail
        all_goals (go_roundg f;(case measure=>omega);(case rel=>exact⟨q+1+1,x++[⟨u.kind-2,u.text⟩],some ⟨B,0,none⟩,y,some ⟨E,0,none⟩,D,zW,by omega,by simp;omega,by go_num,HC.out,Gm H HV⟩))
       ·have m2:((Ax.kc u2.kind:Int) != 44)=true:=tm (j:=6) V U (by decide) (by decide) h6;have HE:=HEb.out (by simpa using m1) (by simpa using m2);clear O h6
        go_wp2_with fail
        all_goals exact aaT (v:=.tuple #[.agg #[.string t.text,.slice (some ⟨B,0,none⟩) (x.length+1) y,.slice (some ⟨E,0,none⟩) (x.length+1) D,.int .i64 t.at_],.int .i64 (q+1),.bool false]) (by simp[results,Tryz.results207,go_sem,aq hu];done) rfl (ud HE bu)
  ·have n1:((Ax.kc u.kind:Int) != 110)=true:=tm (j:=2) q0 q8;have n3:((Ax.kc u.kind:Int) != 118)=true:=tm (j:=3) q0 q8;have HE:Hid (R=(none,q)):=by
    rw[<-GA.out,Ax.uR (Ax.zE HU.out Zu)];rfl
   clear GA Zu;obtain⟨hu,bu,Z,Y⟩:=X.finish
   go_wp2_with fail
   all_goals (exact aaT (v:=.tuple #[.agg #[.string t.text,.slice td x.length tc,.slice vd x.length vc,.int .i64 t.at_],.int .i64 q,.bool false]) (by simp[results,Tryz.results207,go_sem,aq hu];done) rfl (ud HE bu))
/- axiomref: tokens, atom whole; rules as plain functions. -/
theorem vi(s w)(hs:s.size<=600):
 Calls prog 150 #[.string s] w λe w'=>∃i j,e=.returned (.slice i (Ax.split s).length j)/\JW w' i j (Ax.split s)/\Below w.heap.size w w':=by
 refine(Ic s w hs).mono ?_;rintro e w' ⟨v,rfl,q,t⟩;rw[Ax.vw,aaL]at q;obtain⟨i,j,rfl⟩:=ah q;have:=Ax.kp s;exact⟨i,j,rfl,⟨aD q (IS _),by omega,Ax.gi s,Ax.GY s⟩,t⟩
theorem Ht{t}(q:T[i]?=some t)(u:t.kind=2)(x:Ax.aS T (i+1)=4):Ax.bY T i=FN T t (Ax.cf T T.length (i+1+1) []):=by
 rcases w:Ax.cf T T.length (i+1+1) []with⟨_ | y,j⟩
 ·rw[Ax.C0 q u x w];rfl
 ·by_cases e:Ax.aS T j=5
  ·rw[Ax.Dd q u x w e];simp[FN,e]
  ·rw[Ax.Da q u x w e];simp[FN,e]
theorem BS(w:World)(t)(u:Nat)(T)(i:Nat)(h:JW w t u T)(D:i<T.length):
 Calls prog 207 #[.slice t T.length u,.int .i64 i] w λe w'=>D8 w (Ax.bY T i) e w':=by
 have j:T[i]?=some T[i]:=AS D;by_cases q:(T[i]).kind=2
 ·have y:=h.2.2.1.next D (by omega) (by omega);have B:T[i+1]?=some T[i+1]:=AS y;have E:=Ax.cQ B;by_cases x:(T[i+1]).kind=4
  ·exact Uw w t u T i h j q B x (Ht j q (by rw[E];exact x)).symm
  ·refine(Ux w t u T i h j q B x).mono ?_;rintro e w' ⟨rfl,A⟩;rw[Ax.C6 j q (by rw[E];exact x)];exact⟨A,.inr ⟨(T[i]).text,none,0,0,none,0,0,(T[i]).at_,rfl,by simp⟩⟩
 ·refine(Ss w t u T i h j q).mono ?_;rintro e w' ⟨rfl,A⟩;rw[Ax.DI j q];exact⟨A,.inr ⟨_,_,_,_,_,_,_,_,rfl,rfl⟩⟩
theorem yu{t}{u:Nat}(T)(i j:Nat)(a:Ax.Atom)(h:JW w t u T)(E:i<T.length)(I:Hid (Ax.bY T i=(some a,j))):
 Calls prog 207 #[.slice t T.length u,.int .i64 i] w λe w'=>∃td tc vd vc,e=.returned (.tuple #[.agg #[.string a.pred,.slice td a.af.length tc,.slice vd a.af.length vc,.int .i64 a.at_],.int .i64 j,.bool true])/\QA.ok w' ⟨a,td,tc,vd,vc⟩/\QA.rK w.heap.size ⟨a,td,tc,vd,vc⟩/\Below w.heap.size w w':=by
 refine(BS w t u T i h E).mono ?_;rintro e w' ⟨F,x⟩;rw[I.out]at x;rcases x with⟨J,td,tc,vd,vc,y,rfl,A,H⟩ | ⟨_,_,_,_,_,_,_,_,D,_⟩
 ·simp only[AT]at y;subst y;exact⟨td,tc,vd,vc,rfl,⟨aD A (IS _),aD H (IS _)⟩,λq B=>(A.lt q B).1,F⟩
 ·simp at D
theorem xW{q}{t:Nat}(T)(i j:Nat)(h:JW w q t T)(A:i<T.length)(D:Hid (Ax.bY T i=(none,j))):
 Calls prog 207 #[.slice q T.length t,.int .i64 i] w λe w'=>∃x td n tc vd m vc y,e=.returned (.tuple #[.agg #[.string x,.slice td n tc,.slice vd m vc,.int .i64 y],.int .i64 j,.bool false])/\Below w.heap.size w w':=by
 refine(BS w q t T i h A).mono ?_;rintro e w' ⟨E,u⟩;rw[D.out]at u;rcases u with⟨F,td,tc,vd,vc,B,_⟩ | ⟨x,td,n,tc,vd,m,vc,y,_,rfl⟩
 ·simp at B
 ·grind
def gK(T:List Ax.Tok)(q:Nat)(acc:List Ax.Atom):Bool:=(decide (Ax.aS T q=8)&&decide (acc.length=0))||(decide (Ax.aS T q=6)&&decide (0<acc.length))
def gR(T:List Ax.Tok):Nat->Nat->List Ax.Atom->Option (List Ax.Atom)×Nat
 | 0,q,acc=>if gK T q acc then (none,q+1)else (some acc,q)
 | f+1,q,acc=>
  if gK T q acc then
   match Ax.bY T (q+1)with
   | (none,j)=>(none,j)
   | (some b,j)=>gR T f j (acc++[b])
  else (some acc,q)
theorem rV(h:gK T q e=false):gR T f q e=(some e,q):=by cases f<;>simp[gR,h]
theorem rU(h:gK T q e=true)(i:Ax.bY T (q+1)=(none,j)):gR T (f+1) q e=(none,j):=by simp[gR,h,i]
theorem zr{b}(h:gK T q e=true)(i:Ax.bY T (q+1)=(some b,j)):gR T (f+1) q e=gR T f j (e++[b]):=by simp[gR,h,i]
theorem va(T):∀(f q:Nat) (e:List Ax.Atom),0<e.length->gR T f q e=if Ax.aS T q=6 then Ax.bZ T f (q+1) e else (some e,q)
 | 0,q,e,h=>by
  have:gK T q e=decide (Ax.aS T q=6):=by unfold gK;simp[show ¬e.length=0 by omega,h]
  unfold gR;rw[this];simp[Ax.bZ]
 | f+1,q,e,h=>by
  have x:gK T q e=decide (Ax.aS T q=6):=by unfold gK;simp[show ¬e.length=0 by omega,h]
  by_cases t:Ax.aS T q=6
  ·rw[aa3 t];have w:gK T q e=true:=by rw[x];simpa using t
   rcases i:Ax.bY T (q+1)with⟨_ | b,j⟩
   ·rw[rU w i,Ax.gj i]
   ·rw[zr w i,va T f j (e++[b]) (by simp)];by_cases u:Ax.aS T j=6
    ·rw[aa3 u,Ax.iX i u]
    ·rw[aaD u,Ax.gz i u]
  ·rw[aaD t];exact rV (by rw[x];simpa using t)
theorem EK(T f q):gR T f q []=if Ax.aS T q=8 then Ax.bZ T f (q+1) []else (some [],q):=by
 have w:gK T q []=decide (Ax.aS T q=8):=by simp[gK]
 by_cases i:Ax.aS T q=8
 ·rw[aa3 i];have u:gK T q []=true:=by rw[w];simpa using i
  cases f with
  | zero=>simp[gR,u,Ax.bZ]
  | succ f=>
   rcases e:Ax.bY T (q+1)with⟨_ | b,j⟩
   ·rw[rU u e,Ax.gj e]
   ·rw[zr u e,va T f j ([]++[b]) (by simp)];by_cases t:Ax.aS T j=6
    ·rw[aa3 t,Ax.iX e t]
    ·rw[aaD t,Ax.gz e t]
 ·rw[aaD i];exact rV (by rw[w];simpa using i)
theorem I0{a:Ax.Atom}(u:Ax.bY T i=(some a,j)):
 Ax.eX T i=match gR T T.length j []with
  | (none,q)=>(none,q)
  | (some b,q)=>if Ax.aS T q=7 then (some ⟨a,b⟩,q+1)else (none,q):=by
 rw[EK];by_cases t:Ax.aS T j=8
 ·rw[aa3 t];rcases w:Ax.bZ T T.length (j+1) []with⟨_ | b,q⟩
  ·rw[Ax.sF u t w]
  ·by_cases e:Ax.aS T q=7
   ·rw[Ax.sx u t w e];simp[e]
   ·rw[Ax.tE u t w e];simp[e]
 ·rw[aaD t];by_cases e:Ax.aS T j=7
  ·rw[Ax.sK u t e];simp[e]
  ·rw[Ax.sf u t e];simp[e]
variable{e:List QA}{bc j:Nat}{bd:Option Addr}{x:QA}{w1 w2 w:World}
structure Sq(w1 wr:World)(x:QA)(bd:Option Addr)(bc:Nat)(acc:List QA):Prop where
 aY:wr.heap[w1.heap.size+1]?=some (.cells #[.string x.a.pred,.slice x.td x.a.af.length x.tc,.slice x.vd x.a.af.length x.vc,.int .i64 x.a.at_,.slice bd acc.length bc] 280 (0,0))
 row:wr.ownsRow w1.heap.size 277 4 (.slice bd acc.length bc) acc.length (cN acc)
 ok:EV wr acc
 be:Below w1.heap.size w1 wr
 rK:∀y,y∈acc->QA.rK w1.heap.size y
theorem rp{i:World}{B a b c d e t}(h:i.heap[B]?=some (.cells #[a,b,c,d,e] t (0,0))):
 i.cell? ⟨B,0,none⟩=some a/\i.cell? ⟨B,1,none⟩=some b/\i.cell? ⟨B,2,none⟩=some c/\i.cell? ⟨B,3,none⟩=some d/\i.cell? ⟨B,4,none⟩=some e/\i.frozen? ⟨B,4,none⟩=false/\B<i.heap.size:=by
 refine⟨?_, ?_, ?_, ?_, ?_,aJ h 4,lt_of_heap h⟩<;>rw[aq h]<;>rfl
theorem Sq.below{wr}(h:Sq w1 wr x bd bc e)(i:Below wr.heap.size wr w2):Sq w1 w2 x bd bc e:=
 ⟨(i.block _ (lt_of_heap h.aY)).trans h.aY,ae h.row i,kF h.ok i,h.be.trans (i.mono h.be.size),h.rK⟩
theorem Sq.grow{q y i j}(h:Sq w1 w2 x bd bc e)(hy:y.ok w2)(u:((w2.alloc i).alloc j).grownBy q (Value.slice bd e.length bc).ownBlock):
 q.heap[w1.heap.size+1]?=some (.cells #[.string x.a.pred,.slice x.td x.a.af.length x.tc,.slice x.vd x.a.af.length x.vc,.int .i64 x.a.at_,.slice bd e.length bc] 280 (0,0))/\EV q (e++[y])/\Below w1.heap.size w1 q:=by
 have t:=au ((h.row.alloc i).alloc j);have B:=lt_of_heap h.aY;have A:((w2.alloc i).alloc j).heap[w1.heap.size+1]?=_:=(aay _ _ _ (by simp;omega)).trans ((aay w2 i _ B).trans h.aY);refine⟨?_, ?_, ?_⟩
 ·rw[u.block _ (lt_of_heap A) ?_]
  ·exact A
  ·grind
 ·exact xS (w:=(w2.alloc i).alloc j) (kF (Qt h.ok hy) (aM.alloc (by simp) _)) u t
 ·have:=h.be.size;exact((h.be.alloc this i).alloc (by simp;omega) j).grown u (by simp;omega) (λk t=>(h.row.lt k t).1)
theorem Sq.put{q y i}
 (A:q.heap[w1.heap.size+1]?=some (.cells #[.string x.a.pred,.slice x.td x.a.af.length x.tc,.slice x.vd x.a.af.length x.vc,.int .i64 x.a.at_,.slice bd e.length bc] 280 (0,0)))(D:EV q (e++[y]))(B:∀z,z∈e++[y]->QA.rK w1.heap.size z)(F:Below w1.heap.size w1 q)
 (H:q.ownsRow w1.heap.size 277 4 (.slice i (e.length+1) j) (e.length+1) (cN e++[.string y.a.pred,.slice y.td y.a.af.length y.tc,.slice y.vd y.a.af.length y.vc,.int .i64 y.a.at_])):
 Sq w1 (q.setCell ⟨w1.heap.size+1,4,none⟩ (.slice i (e.length+1) j)) x i j (e++[y]):=by
 have u:∀k,(some (w1.heap.size+1):Option Nat)=some k->∃t fz,q.heap[k]?=some (.cells t 280 fz):=λk E=>by cases E;exact⟨_,_,A⟩
 have w:(e++[y]).length=e.length+1:=by simp
 refine⟨by rw[heap_setCell_same A,w];rfl, ?_,xS D (grownBy_setCell _ _) u,F.setCell (by simp) _,B⟩;rw[DF,w];exact aB H (grownBy_setCell _ _) u
structure Ja(w wr:World)(od:Option Addr)(oc:Nat)(out:List QR):Prop where
 row:wr.ownsRow w.heap.size 280 5 (.slice od out.length oc) out.length (cV out)
 ok:∀r,r∈out->r.ok wr/\r.body.length<=1000
 be:Below w.heap.size w wr
 rK:∀r,r∈out->QR.rK w.heap.size r
theorem Ja.below{wr i out}(h:Ja w wr i j out)(e:Below wr.heap.size wr w2):Ja w w2 i j out:=
 ⟨ae h.row e,λr q=>⟨QR.below (h.ok r q).1 e,(h.ok r q).2⟩,h.be.trans (e.mono h.be.size),h.rK⟩
theorem Ja.snoc{t x A out v i r}(h:Ja w w2 x A out)(H:r.ok w2)(E:r.rK w.heap.size)(I:r.body.length<=1000)(B:(w2.alloc i).grownBy t (Value.slice x out.length A).ownBlock)
 (D:t.ownsRow w.heap.size 280 5 v (out.length+1) (cV out++[.string r.head.a.pred,.slice r.head.td r.head.a.af.length r.head.tc,.slice r.head.vd r.head.a.af.length r.head.vc,.int .i64 r.head.a.at_,.slice r.bd r.body.length r.bc])):
 ∃j q,v=.slice j (out++[r]).length q/\Ja w t j q (out++[r]):=by
 obtain⟨j,q,rfl⟩:=ah D;have u:=au (h.row.alloc i);have hlen:(out++[r]).length=out.length+1:=by simp
 have F:=h.be.size;refine⟨j,q,by rw[hlen],⟨by rw[C9,hlen];exact D, ?_,(h.be.alloc F i).grown B (by simp;omega) (λk u=>(h.row.lt k u).1),λy hy=>by rcases ZD.1 hy with hy | hy;exact h.rK y hy;simp at hy;subst hy;exact E⟩⟩;intro y hy;have e:y.ok w2/\y.body.length<=1000:=by
  rcases ZD.1 hy with hy | hy
  ·exact h.ok y hy
  ·grind
 exact⟨QR.type (w:=w2.alloc i) (QR.below e.1 aM) B u (by decide) (by decide) (by decide),e.2⟩
def RC(w:World)(T:List Ax.Tok)(R:Option (List Ax.aI)×Nat)(e:Ending)(w':World):Prop:=Below w.heap.size w w'/\
 ((∃od oc out,R.1=some (List.map QR.aw out)/\e=.returned (.tuple #[.slice od out.length oc,.int .i64 (-1)])/\dz w' od oc out/\out.length<=1000/\∀r,r∈out->QR.rK w.heap.size r)\/
  (∃t,R.1=none/\T[R.2]?=some t/\e=.returned (.tuple #[.slice none 0 0,.int .i64 (Ax.Tok.at_ t)])))
theorem ya{w' T R t}(h:Hid (R=(none,j)))(e:T[j]?=some t)(i:Below w.heap.size w w'):RC w T R (.returned (.tuple #[.slice none 0 0,.int .i64 t.at_])) w':=
 ⟨i,.inr ⟨t,by rw[h.out],by rw[h.out];exact e,rfl⟩⟩
theorem Ik(s w)(hs:s.size<=600){T}(hTs:Hid (Ax.split s=T)){R}(hR:Hid (Ax.bI T T.length 0 []=R)):
 Calls prog 146 #[.string s] w λe w'=>RC w T R e w':=by
 have Qo:∀w,Calls prog 150 #[.string s] w λe w'=>∃ld lc,e=.returned (.slice ld T.length lc)/\JW w' ld lc T/\Below w.heap.size w w':=λw=>by
  rw[<-hTs.out];exact vi s w hs
 go_enter func146,ntmps146
 go_wp2_with (go_at_call 150;refine(Qo _).mono ?_;rintro e w' ⟨ld,lc,rfl,hT,cq⟩)
 clear Qo hTs;have hTl:=hT.2.1;have O:=hT.2.2.1;have F3:=cq.size;have h0:0<T.length:=by obtain⟨m,t,rfl,_⟩:=O;simp
 go_loopg [5,6] T.length (λf ov iv wr=>∃(i:Nat) (od:Option Addr) (oc:Nat) (out:List QR),i<T.length/\T.length<=i+f/\out.length<=i/\iv=.int .i64 i/\ov=.slice od out.length oc/\Ja w wr od oc out/\JW wr ld lc T/\Ax.bI T f i (out.map QR.aw)=R)
 ·exact⟨0,none,0,[],h0,by omega,by simp,rfl,rfl,⟨aaM _ _ _ _,(λr hr=>by cases hr),cq,λr hr=>by cases hr⟩,hT,hR.out⟩
 ·
  obtain⟨i,od,oc,out,hi,hf,jE,rfl,rfl,W,NI,hr⟩:=hrel;have M:=aj hr;clear hr hR hT;obtain⟨f,He⟩:∃f,gk=f+1:=⟨gk-1,by omega⟩;subst He;obtain⟨w0,rfl⟩:∃x,x=wr:=⟨_,rfl⟩;have cp:=W.be.size;have ht:T[i]?=some T[i]:=AS hi;have NA:=Ax.cQ ht;obtain⟨g,rfl,hg,kW,c0,_,_,Y,X⟩:=NI.cells ht;by_cases h1:Ax.aS T i=1
  ·have HE:Hid (R=(some (out.map QR.aw),i)):=M.out.symm.trans (Ax.kR h1);have hb:((Ax.kc (T[i]).kind:Int) != 101)=false:=nt (j:=1) Y X;clear h1 NA
   go_wp2_with fail
   go_ret2
   exact⟨W.be,.inl ⟨od,oc,out,by rw[HE.out],rfl,⟨aD W.row (IS _),W.ok⟩,by omega,W.rK⟩⟩
  ·have hb:((Ax.kc (T[i]).kind:Int) != 101)=true:=tm (j:=1) Y X;have H1:=aj h1;clear h1 NA;rcases A:Ax.bY T i with⟨_ | a,j⟩
   ·have hA:=aj A;have hj:=Ax.gP O hi A;have HE:Hid (R=(none,j)):=M.out.symm.trans (Ax.gx H1.out (Ax.sI A));clear A M;have H:T[j]?=some T[j]:=AS hj;have HTJ:=aj H
    go_wp2_with (go_at_call 207;refine(xW T i j NI hi hA).mono ?_;rintro e w1 ⟨x,td,n,tc,vd,m,vc,y,rfl,aV⟩;obtain⟨g',Tu,_,_,_,_,f2,_,_⟩:=(NI.below aV).cells H;obtain rfl:g=g':=by simpa using Tu)
    go_region
    all_goals (go_wp2_with fail)
    all_goals go_ret2
    all_goals exact ya HE HTJ.out ((W.be.trans (aV.mono cp)).alloc (by have:=aV.size;omega) _).drew
   ·have hA:=aj A;have hj:=Ax.gP O hi A;have RP:=Ax.oF A;have V:Hid (Ax.eX T i=match gR T T.length j []with
     | (none,D)=>(none,D)
     | (some b,D)=>if Ax.aS T D=7 then (some ⟨a,b⟩,D+1)else (none,D)):=I0 A
    clear A;obtain⟨B,hB⟩:∃B,gR T T.length j []=B:=⟨_,rfl⟩;rw[hB]at V;have HB:=aj hB;clear hB
    go_wp2_with (go_at_call 207;refine(yu T i j a NI hi hA).mono ?_;rintro e w1 ⟨td,tc,vd,vc,rfl,Fm,Ve,aV⟩;have HXF:Hid (QA.rK w.heap.size ⟨a,td,tc,vd,vc⟩):=QA.rK.mono Ve cp;clear Ve)
    have iS:=aV.size;have aie:=NI.below aV;have Ps:=W.below aV;clear NI W c0 hb
    go_loopg [6] T.length (λf2 iv wr=>∃(q:Nat) (bd:Option Addr) (bc:Nat) (u:List QA),q<T.length/\T.length<=q+f2/\j<=q/\u.length<=q/\iv=.int .i64 q/\Sq w1 wr ⟨a,td,tc,vd,vc⟩ bd bc u/\gR T f2 q (u.map QA.a)=B)
    ·
     refine⟨j,none,0,[],hj,by omega,by omega,by simp,by go_num,⟨?_,aaM _ _ _ _,Ud,aM.alloc (by simp) _,λ_ h=>by cases h⟩,HB.out⟩;have:=By (w1.alloc (.cells #[.string a.pred,.slice td a.af.length tc,.slice vd a.af.length vc,.int .i64 a.at_] 277)) (.cells #[.string a.pred,.slice td a.af.length tc,.slice vd a.af.length vc,.int .i64 a.at_,.slice none 0 0] 280);rw[abb]at this;exact this
    ·
     obtain⟨q,bd,bc,u,hq,hqf,hjq,C5,rfl,N,X2⟩:=hrel;have YO:=aj X2;clear X2 HB;obtain⟨f2,agC⟩:∃f,gk=f+1:=⟨gk-1,by omega⟩;subst agC;obtain⟨w3,rfl⟩:∃x,x=wr:=⟨_,rfl⟩;have qN:=N.be;have GS:=qN.size;have Z:T[q]?=some T[q]:=AS hq;have hkq:=Ax.cQ Z;have Ml:=aie.below qN;obtain⟨g',Tu,Cx,_,c0,_,c2,Y,X⟩:=Ml.cells Z;obtain rfl:g=g':=by simpa using Tu
     obtain⟨e0,e1,e2,e3,e4,fe4,L4⟩:=rp N.aY;obtain⟨G,hG⟩:∃G,gK T q (u.map QA.a)=G:=⟨_,rfl⟩;have adQ:=aH N.row;have J:G=((((Ax.kc (T[q]).kind:Nat):Int)==58&&((u.length:Nat):Int)==0)||(((Ax.kc (T[q]).kind:Nat):Int)==44&&decide ((0:Int)<((u.length:Nat):Int)))):=by
      have e8:=Ax.xY (T[q]).kind Y X 8 (by decide) (by decide);have e6:=Ax.xY (T[q]).kind Y X 6 (by decide) (by decide);rw[show((Ax.kc 8:Nat):Int)=58 from rfl]at e8;rw[show((Ax.kc 6:Nat):Int)=44 from rfl]at e6;rw[e8,e6,<-hG,gK,hkq,aaL];congr 2
      ·congr 1;exact propext (by omega)
      ·congr 1;exact propext (by omega)
     have HG:=aj hG;clear hG
     go_upto_region 10 with fail
     go_cut [64]from 39 to 86 (λc wx=>c=.bool G/\wx=w3)
     ·
      cases I:(((Ax.kc (T[q]).kind:Nat):Int)==58)
      case true=>
       cases DB:(((u.length:Nat):Int)==0)
       case true=>
        go_wp2_with fail
        go_meet;exact⟨by rw[J,I,DB];rfl,rfl⟩
       case false=>
        cases U6:(((Ax.kc (T[q]).kind:Nat):Int)==44)
        case true=>simp at I U6;omega
        case false=>
         go_wp2_with fail
         go_meet;exact⟨by rw[J,I,DB,U6];rfl,rfl⟩
      case false=>
       cases U6:(((Ax.kc (T[q]).kind:Nat):Int)==44)
       case true=>
        go_wp2_with fail
        go_meet;exact⟨by rw[J,I,U6];simp,rfl⟩
       case false=>
        go_wp2_with fail
        go_meet;exact⟨by rw[J,I,U6];rfl,rfl⟩
     ·
      obtain⟨rfl,rfl⟩:=hcut;clear J;cases G
      case true=>
       have P9:q+1<T.length:=by
        have:=HG.out;simp only[gK,aeR,acK,abW]at this;rcases this with⟨h8,_⟩ | ⟨h6,_⟩
        ·exact Ax.jm O hq h8 (by omega)
        ·exact Ax.jm O hq h6 (by omega)
       rcases A:Ax.bY T (q+1)with⟨_ | b,D⟩
       ·have hA2:=aj A;have hj2:=Ax.gP O P9 A;have HE:Hid (R=(none,D)):=by
         refine M.out.symm.trans (Ax.gx H1.out ?_);rw[V.out,<-YO.out,rU HG.out A]
        clear A M V YO HG;have H:T[D]?=some T[D]:=AS hj2;have HTJ:=aj H
        go_wp2_with (go_at_call 207;refine(xW T (q+1) D Ml P9 hA2).mono ?_;rintro e w4 ⟨x,E,n,F,Vu,m,UI,y,rfl,jL⟩;obtain⟨g4,agB,hg4,_,_,_,f24,_,_⟩:=(Ml.below jL).cells H;obtain rfl:g=g4:=by simpa using agB)
        go_region
        all_goals (go_wp2_with fail)
        all_goals go_ret2
        all_goals exact ya HE HTJ.out (((Ps.be.trans (qN.mono (by omega))).trans (jL.mono (by omega))).alloc (by have:=jL.size;omega) _).drew
       ·have hA2:=aj A;have hj2:=Ax.gP O P9 A;have hqj:=Ax.oF A;have S0:Hid (gR T f2 D (u.map QA.a++[b])=B):=by
         have:=YO.out;rw[zr HG.out A]at this;exact this
        clear A YO HG;obtain⟨i0,fC,cE,Rg,Sl⟩:=abF Tryz.PX;have Hi0:=aj fC;have Hz0:=aj cE;have Z8:=aj Rg;have Hy0:=aj Sl;clear fC cE Rg Sl
        go_wp2_with (first | (go_at_call 207;refine(yu T (q+1) D b Ml P9 hA2).mono ?_;rintro e w4 ⟨E,F,Vu,UI,rfl,agi,hyf,jL⟩;have HYF:Hid (∀z,z∈u++[⟨b,E,F,Vu,UI⟩]->QA.rK w1.heap.size z):=(λz U=>by rcases ZD.1 U with U | U;exact N.rK z U;simp at U;subst U;exact QA.rK.mono hyf N.be.size);clear hyf;have Xu:=jL.size;have Q9:=N.below jL;have zI:=Q9.aY;obtain⟨e04,e14,e24,e34,e44,aqh,arB⟩:=rp zI) | (at_builtin;refine abp _ rfl (.tmp 81) (.tmp 83) 278 rfl w1.heap.size 277 i0 _ 4 72 Tryz.underlying278 Hi0.out Hz0.out Z8.out Hy0.out rfl (by decide) _ _ _ rfl ((Q9.row.alloc _).alloc _) ⟨w4.heap.size+1,0,none⟩ 1 1 [.string b.pred,.slice E b.af.length F,.slice Vu b.af.length UI,.int .i64 b.at_] rfl rfl (en) (by simp[Value.oneCell']) eI (by omega) (by simp;omega) ?_;intro v5 w5 gB fB _;obtain⟨bd5,bc5,rfl⟩:=ah gB;obtain⟨Vz,hq5,oH⟩:=Q9.grow (y:=⟨b,E,F,Vu,UI⟩) agi fB;obtain⟨e05,e15,e25,e35,e45,apv,aqT⟩:=rp Vz))
        go_roundg f2
        case measure=>omega
        case rel=>
         refine⟨D,bd5,bc5,u++[⟨b,E,F,Vu,UI⟩],hj2,by omega,by omega,by simp;omega,rfl,Sq.put Vz hq5 HYF.out oH gB, ?_⟩;rw[aa6];exact S0.out
      case false=>
       have xx:Hid (B=(some (u.map QA.a),q)):=by
        rw[<-YO.out];exact rV HG.out
       rw[xx.out]at V;clear YO HG xx;by_cases h7:Ax.aS T q=7
       ·have hb7:(((Ax.kc (T[q]).kind:Nat):Int) != 46)=false:=nt (j:=7) Y X;have P9:=Ax.jm O hq h7 (by omega);have S0:Hid (Ax.bI T f (q+1) (out.map QR.aw++[⟨a,u.map QA.a⟩])=R):=by
         rw[<-M.out,Ax.mV (r:=⟨a,u.map QA.a⟩) (j:=q+1) H1.out (by rw[V.out];simp[h7])];rfl
        clear M V h7 hkq;obtain⟨i0,fC,cE,Rg,Sl⟩:=abF Tryz.Wf;have Hi0:=aj fC;have Hz0:=aj cE;have Z8:=aj Rg;have Hy0:=aj Sl;clear fC cE Rg Sl;have PY:=Ps.below qN;have GJ:QR.ok wc ⟨⟨a,td,tc,vd,vc⟩,bd,bc,u⟩:=⟨QA.below Fm qN,aD N.row (IS _),N.ok⟩;have VC:Hid (QR.rK w.heap.size ⟨⟨a,td,tc,vd,vc⟩,bd,bc,u⟩):=⟨HXF.out,λz U=>(N.rK z U).mono (by omega)⟩;have HQR:=aj GJ;clear GJ
        go_wp2_with (at_builtin;refine abp _ rfl (.tmp 98) (.tmp 100) 174 rfl w.heap.size 280 i0 _ 5 96 Tryz.underlying174 Hi0.out Hz0.out Z8.out Hy0.out rfl (by decide) _ _ _ rfl (PY.row.alloc _) ⟨wc.heap.size,0,none⟩ 1 1 [.string a.pred,.slice td a.af.length tc,.slice vd a.af.length vc,.int .i64 a.at_,.slice bd u.length bc] rfl rfl (dn _ _ _) (by simp[Value.oneCell']) eI (by omega) (by simp;omega) ?_;intro v5 w5 gB fB _)
        go_roundg f
        case measure=>omega
        case rel=>
         obtain⟨Lk,Ma,rfl,adl⟩:=PY.snoc (r:=⟨⟨a,td,tc,vd,vc⟩,bd,bc,u⟩) HQR.out VC.out (by show u.length<=1000;omega) fB gB;refine⟨q+1,Lk,Ma,out++[⟨⟨a,td,tc,vd,vc⟩,bd,bc,u⟩],P9,by omega,by simp;omega,by go_num,rfl,adl, ?_, ?_⟩
         ·exact⟨aB (Ml.1.alloc _) fB (au (PY.row.alloc _)),Ml.2⟩
         ·rw[aa6];exact S0.out
       ·have hb7:(((Ax.kc (T[q]).kind:Nat):Int) != 46)=true:=tm (j:=7) Y X;have HE:Hid (R=(none,q)):=by
         refine M.out.symm.trans (Ax.gx H1.out ?_);rw[V.out];simp[h7]
        have HTQ:=aj Z;clear M V h7 hkq
        go_wp2_with fail
        go_region
        all_goals (go_wp2_with fail)
        all_goals go_ret2
        all_goals exact ya HE HTQ.out (Ps.be.trans (qN.mono (by omega))).drew
theorem yI(s w)(hs:s.size<=600):Calls prog 146 #[.string s] w λe w'=>RC w (Ax.split s) (Ax.bI (Ax.split s) (Ax.split s).length 0 []) e w':=
 Ik s w hs rfl rfl
/- axiomref: many. -/
theorem Ax.vR(l1 l2 ps):Ax.bH ps (l1++l2)=Ax.bH (Ax.bH ps l1) l2:=by
 induction l1 generalizing ps with
 | nil=>rfl
 | cons a l ih=>simp only[aeK,Ax.bH];exact ih _
theorem dz.take{rd rc l}(h:dz w rd rc l){n}(y:n<=l.length)(D:0<n):dz w rd rc (l.take n):=by
 refine⟨?_,λr i=>h.2 r (ab4 i)⟩;have hlen:(l.take n).length=n:=by simp;omega
 have e:∀(m:List QR),(cV m).length=m.length*5:=by
  intro m;induction m with | nil=>rfl | cons a l ih=>simp[cV]at ih ⊢;omega
 have H:cV (l.take n)=(cV l).take (n*5):=by
  conv=>rhs;rw[<-ab7 n l]
  rw[show cV (l.take n++l.drop n)=cV (l.take n)++cV (l.drop n) by unfold cV;rw[abQ],aeB (by rw[e,hlen])]
 rw[hlen];refine⟨by rw[e,hlen], ?_⟩;rcases h.1.2 with⟨F,E⟩ | ⟨g,cap,q,x,B,A,I,t,u,j⟩
 ·omega
 ·grind
theorem GG{rd rc}(l)(h:dz w rd rc l)(A:l.length<=1000)(n)(q:n<=l.length)(y:0<n):
 Calls prog 148 #[.slice rd n rc] w λe w'=>∃i j o t,e=.returned (.tuple #[.slice i (List.length o) j,.int .i64 t])/\Hid (List.length o=(Ax.bH [] (((l.map QR.aw).take n).flatMap Ax.aI.atoms)).length)/\kz w w' i j o:=by
 have:=rT w rd rc (l.take n) (h.take q y) (by simp;omega);rw[abv,aeQ q]at this;refine this.mono ?_;rintro e w' ⟨i,j,o,rfl,x,u⟩;refine⟨i,j,o,_,rfl, ?_,u⟩;show o.length=_;rw[x.out,<-Ax.sO,aaL,List.map_take]
theorem vF{l:List Ax.aI}{i:Nat}{r:Ax.aI}(h:l[i]?=some r):Ax.bH [] ((l.take (i+1)).flatMap Ax.aI.atoms)=Ax.bH (Ax.bH [] ((l.take i).flatMap Ax.aI.atoms)) r.atoms:=by
 rw[aaZ,h,abQ,Ax.vR];simp
theorem BT(w rd rc l)(h:dz w rd rc l)(nX:l.length<=1000):
 Calls prog 147 #[.slice rd l.length rc] w λe w'=>Below w.heap.size w w'/\((∃at_:Nat,Ax.bL 0 [] (l.map QR.aw)=some at_/\e=.returned (.int .i64 at_))\/(Ax.bL 0 [] (l.map QR.aw)=none/\e=.returned (.int .i64 (-1)))):=by
 generalize hR:Ax.bL 0 [] (l.map QR.aw)=R
 go_enter func147,ntmps147
 go_wp2_with fail
 go_loopw [3] (λiv wr=>∃(i:Nat),i<=l.length/\iv=.int .i64 i/\Below w.heap.size w wr/\Ax.bL i (Ax.bH [] (((l.map QR.aw).take i).flatMap Ax.aI.atoms)) ((l.map QR.aw).drop i)=R) (λiv _=>l.length-(intOf iv).toNat)
 ·exact⟨0,IS _,rfl,aaj _ _,hR⟩
 ·
  obtain⟨i,hi,rfl,j,hr⟩:=hrel;have J:=aj hr;clear hr hR;obtain⟨w0,rfl⟩:∃x,x=wr:=⟨_,rfl⟩;have D:=j.size;by_cases aL:i<l.length
  ·obtain⟨g,r,rfl,hg,kW,d0,d1,d2,d3,d4,GJ,eB,Y⟩:=(h.below j).at aL;have Z5:(l.map QR.aw)[i]?=some r.aw:=by simp[aL,Y.out]
   have F:(l.map QR.aw).drop i=r.aw::(l.map QR.aw).drop (i+1):=by
    rw[aan (by simpa using aL)];simp[Y.out]
   have tL:Hid (Ax.bH [] (((l.map QR.aw).take (i+1)).flatMap Ax.aI.atoms)=Ax.bH (Ax.bH [] (((l.map QR.aw).take i).flatMap Ax.aI.atoms)) r.aw.atoms):=vF Z5;rw[F]at J;have MM:Hid ((if Ax.fD i (Ax.bH [] (((l.map QR.aw).take (i+1)).flatMap Ax.aI.atoms)) r.aw then some r.aw.head.at_ else Ax.bL (i+1) (Ax.bH [] (((l.map QR.aw).take (i+1)).flatMap Ax.aI.atoms)) ((l.map QR.aw).drop (i+1)))=R):=by
    rw[tL.out];exact J.out
   clear F Y Z5 J tL
   go_wp2_with (first | (go_at_call 208;refine(EC r GJ eB).mono ?_;rintro e w1 ⟨EH,c',rfl,lz,fY,aV⟩;have oP:=j.trans (aV.mono D)) | (go_at_call 148;refine(GG l (h.below oP) nX (i+1) (by omega) (by omega)).mono ?_;rintro e w2 ⟨od,oc,o,wn,rfl,ho,mo⟩))
   have H:=mo.be;have E6:=aV.size;have lf:=H.size;have VJ:=ae lz H;have Z:=kF fY H;have ou:=aV.trans (H.mono E6);clear lz fY mo;obtain⟨u,t⟩:∃u,Ax.iH r.aw.atoms=u:=⟨_,rfl⟩;have ac5:(r.head::r.body).length=r.body.length+1:=rfl;have Ny:Ax.iH ((r.head::r.body).map QA.a)=u:=t;have HM:Hid (Ax.fD i (Ax.bH [] (((l.map QR.aw).take (i+1)).flatMap Ax.aI.atoms)) r.aw=(decide (8<=i)||decide (2<r.body.length)||decide (6<o.length)||u)):=by
    show Ax.fD _ _ _=_;rw[Ax.fD,t,<-ho.out];simp[QR.aw]
   clear t ho;rw[<-ac5]at VJ ⊢;generalize r.head::r.body=L at*;have HW:Hid ((false||((L.map QA.a).drop 0).any Ax.wide)=u):=by
    rw[aeT];exact Ny
   clear Ny
   go_loopw [7,8] (λbv O w3=>∃(b:Bool) (k:Nat),k<=L.length/\bv=.bool b/\O=.int .i64 k/\Below w2.heap.size w2 w3/\(b||((L.map QA.a).drop k).any Ax.wide)=u) (λ_ O _=>L.length-(intOf O).toNat)
   ·exact⟨false,0,IS _,rfl,rfl,aaj _ _,HW.out⟩
   ·
    obtain⟨b,k,hk,rfl,rfl,B,hw⟩:=hrel;have E:=aj hw;clear hw HW;have GS:=B.size;by_cases N:k<L.length
    ·obtain⟨ag,U,hag,hac,Iz⟩:=aA (ae VJ B);subst U;obtain⟨x0,M,x2,x3⟩:=jD L k N;have M:=Iz _ _ M;have VV:=aH (kF Z B _ (IN N)).1;have F:(L.map QA.a).drop k=(L[k]).a::(L.map QA.a).drop (k+1):=by
      rw[aan (by simpa using N)];simp
     rw[F,aeJ,<-Bool.or_assoc]at E;clear F Iz x0 x2 x3;generalize L[k]=x at*;rcases x with⟨y,yt,ytc,yv,yvc⟩;simp only[Ax.wide]at M E VV;cases b
     case true=>
      go_wp2_with fail
      go_roundw
      ·exact⟨true,k+1,by omega,rfl,by go_num,B,by have:=E.out;simpa using this⟩
      ·simp[intOf];omega
     case false=>
      go_wp2_with fail
      go_roundw
      ·exact⟨decide (3<y.af.length),k+1,by omega,by go_num,by go_num,B,by have:=E.out;simpa using this⟩
      ·simp[intOf];omega
    ·have jZ:b=u:=by
      have:=E.out;rw[abD (by simp;omega)]at this;simpa using this
     subst jZ;clear E;have A:=ou.trans (B.mono ou.size);have d33:=(A.cell (p:=⟨g,i*5+3,none⟩) hg).trans d3;have mm:(decide (8<=i)||decide (2<r.body.length)||decide (6<o.length)||b)=true->Hid (R=some r.head.a.at_):=by
      intro hm;have:=MM.out;rw[HM.out,hm,aa3 rfl]at this;exact this.symm
     have fP:(decide (8<=i)||decide (2<r.body.length)||decide (6<o.length)||b)=false->Hid (Ax.bL (i+1) (Ax.bH [] (((l.map QR.aw).take (i+1)).flatMap Ax.aI.atoms)) ((l.map QR.aw).drop (i+1))=R):=by
      intro hm;have:=MM.out;rw[HM.out,hm]at this;simpa [Hid]using this
     have I:=aj mm;have uq:=aj fP;clear mm fP MM HM;cases b
     case true=>
      have q:=I.out (by simp)
      go_wp2_with fail
      go_ret;exact⟨j.trans (A.mono D),.inl ⟨r.head.a.at_,q.out,rfl⟩⟩
     case false=>
      by_cases h8:8<=i
      ·have V:decide ((8:Int)<(i:Int)+1)=true:=by simp;omega
       have q:=I.out (by simp[h8])
       go_wp2_with fail
       go_ret;exact⟨j.trans (A.mono D),.inl ⟨r.head.a.at_,q.out,rfl⟩⟩
      ·have V:decide ((8:Int)<(i:Int)+1)=false:=by simp;omega
       by_cases h2:2<r.body.length
       ·have X:decide ((2:Int)<(L.length:Int)-1)=true:=by simp;omega
        have q:=I.out (by simp[h2])
        go_wp2_with fail
        go_ret;exact⟨j.trans (A.mono D),.inl ⟨r.head.a.at_,q.out,rfl⟩⟩
       ·have X:decide ((2:Int)<(L.length:Int)-1)=false:=by simp;omega
        by_cases h6:6<o.length
        ·have W:decide ((6:Int)<(o.length:Int))=true:=by simp;omega
         have q:=I.out (by simp[h6])
         go_wp2_with fail
         go_ret;exact⟨j.trans (A.mono D),.inl ⟨r.head.a.at_,q.out,rfl⟩⟩
        ·have W:decide ((6:Int)<(o.length:Int))=false:=by simp;omega
         have HN:=uq.out (by simp[h8,h2,h6])
         go_wp2_with fail
         go_roundw
         ·exact⟨i+1,by omega,by go_num,j.trans (A.mono D),HN.out⟩
         ·simp[intOf];omega
  ·have HE:Hid (R=none):=by
    have:=J.out;rw[abD (by simp;omega)]at this;exact this.symm
   go_wp2_with fail
   go_ret;exact⟨j,.inr ⟨HE.out,rfl⟩⟩
/- axiomref: loose. -/
def lA(t x:Ax.Term):Bool:=isVar x&&decide (x.text=t.text)
def Dw(b:List Ax.Atom)(t:Ax.Term):Bool:=!isVar t||b.any λx=>x.af.any (lA t)
theorem IY(b t):Ax.ek b t=!Dw b t:=by
 unfold Ax.ek Dw Ax.qh Ax.kD isVar;by_cases h:t.kind=1
 ·simp only[h,decide_true,aev,Bool.not_true,aeT];congr 2;funext x;congr 1;funext y;rw[abH];simp only[lA,isVar,Ax.Term.beq,h,acK,abW];grind
 ·simp[h]
theorem ve(l:List Ax.Term)(k:Nat)(h:k<l.length):(strCells (l.map Ax.Term.text))[k]?=some (.string (l[k]).text):=by simp[strCells,h]
theorem su(l:List Ax.Term)(k:Nat)(h:k<l.length):(dm (l.map isVar))[k]?=some (.bool (isVar l[k])):=by simp[dm,h]
theorem Ct(w rd rc l)(h:dz w rd rc l):
 Calls prog 149 #[.slice rd l.length rc] w λe w'=>Below w.heap.size w w'/\((∃at_:Nat,Ax.bE (l.map QR.aw)=some at_/\e=.returned (.int .i64 at_))\/(Ax.bE (l.map QR.aw)=none/\e=.returned (.int .i64 (-1)))):=by
 have hle:=aH h.1;generalize hR:Ax.bE (l.map QR.aw)=R
 go_enter func149,ntmps149
 go_wp2_with fail
 go_loopw [3] (λi wr=>∃(k:Nat),k<=l.length/\i=.int .i64 k/\Below w.heap.size w wr/\Ax.bE ((l.map QR.aw).drop k)=R) (λi _=>l.length-(intOf i).toNat)
 ·exact⟨0,IS _,rfl,aaj _ _,hR⟩
 ·
  obtain⟨k,hk,rfl,Z,hr⟩:=hrel;have HR:=aj hr;clear hr hR;obtain⟨w0,rfl⟩:∃x,x=wr:=⟨_,rfl⟩;have cp:=Z.size;by_cases aL:k<l.length
  ·obtain⟨g,r,rfl,hg,kW,d0,d1,d2,d3,d4,GJ,eB,dh⟩:=(h.below Z).at aL;have dE:(l.map QR.aw).drop k=r.aw::(l.map QR.aw).drop (k+1):=by
    rw[aan (by simpa using aL)];simp[dh.out]
   rw[dE]at HR;clear dE dh;rcases r with⟨⟨a,td,tc,vd,vc⟩,bd,bc,body⟩;obtain⟨I,J,pR⟩:=GJ;simp only[QR.aw]at*;have HY:Hid (Ax.lE ⟨a,List.map QA.a body⟩=true->R=some a.at_):=by
    intro hm;have:=HR.out;simp only[Ax.bE,hm,if_true]at this;exact this.symm
   have HN:Hid (Ax.lE ⟨a,List.map QA.a body⟩=false->Ax.bE ((l.map QR.aw).drop (k+1))=R):=by
    intro hm;have:=HR.out;simp only[Ax.bE,hm,aet,if_false]at this;exact this
   clear HR;obtain⟨O,hO⟩:∃O,Ax.lE ⟨a,List.map QA.a body⟩=O:=⟨_,rfl⟩;rw[hO]at HY HN;have HO:=aj hO;clear hO;have YH:=aH I.1;have adQ:=aH J;simp only at YH adQ;have HQH:=aj I;have HQB:=aj J;have HQS:=aj pR;clear I J pR
   go_wp2_with fail
   go_loopw [5] (λi w2=>∃(q:Nat),q<=a.af.length/\i=.int .i64 q/\Below (w0.heap.size+1) (w0.alloc (.cells #[.string a.pred,.slice td a.af.length tc,.slice vd a.af.length vc,.int .i64 a.at_] 277)) w2/\(a.af.drop q).any (Ax.ek (List.map QA.a body))=O) (λi _=>a.af.length-(intOf i).toNat)
   ·exact⟨0,IS _,rfl,aaj _ _,HO.out⟩
   ·
    obtain⟨q,hq,rfl,cX,ho⟩:=hrel;have N:=aj ho;clear ho HO;obtain⟨w2,rfl⟩:∃x,x=wr:=⟨_,rfl⟩;have lf:=cX.size;simp only[abb]at lf;have agY:w0.heap.size<w2.heap.size:=by omega
    have hblk:=(cX.block _ (by omega)).trans (By w0 _);have Gp:=aj hblk;obtain⟨e0,e1,e2,e3,_,_,_,_,_⟩:=bw hblk;clear hblk;have ou:Below w0.heap.size w0 w2:=aM.trans (cX.mono (by omega));by_cases tK:q<a.af.length
    ·have V2:=QA.below HQH.out ou;obtain⟨tg,Vd,lJ,Sz,qu⟩:=aA V2.1 (by show 0<a.af.length;omega);obtain⟨vg,Zp,Ww,Zy,V0⟩:=aA V2.2 (by show 0<a.af.length;omega);simp only at Vd Zp qu V0 Sz Zy;subst Vd Zp;have t0:=qu _ _ (ve a.af q tK);have v0:=V0 _ _ (su a.af q tK);clear qu V0 V2;have D:(a.af.drop q).any (Ax.ek (List.map QA.a body))=(Ax.ek (List.map QA.a body) a.af[q]||(a.af.drop (q+1)).any (Ax.ek (List.map QA.a body))):=by
      rw[aan tK,aeJ]
     rw[D]at N;clear D;generalize a.af[q]=t at*;rw[IY]at N;obtain⟨F,hF⟩:∃F,Dw (List.map QA.a body) t=F:=⟨_,rfl⟩;have HF:Hid ((!isVar t||(body.drop 0).any λx=>x.a.af.any (lA t))=F):=by
      rw[<-hF,Dw,List.any_map];rfl
     rw[hF]at N;clear hF;generalize isVar t=b at*
     go_wp2_with fail
     go_loopw [6,7] (λfv jv H=>∃(f:Bool) (j:Nat),j<=body.length/\fv=.bool f/\jv=.int .i64 j/\Below w2.heap.size w2 H/\(f||(body.drop j).any λx=>x.a.af.any (lA t))=F) (λ_ jv _=>body.length-(intOf jv).toNat)
     ·exact⟨_,0,IS _,rfl,rfl,aaj _ _,HF.out⟩
     ·
      obtain⟨f,j,hj,rfl,rfl,X,W⟩:=hrel;have A:=aj W;clear W HF;obtain⟨H,rfl⟩:∃x,x=wr:=⟨_,rfl⟩;have GS:=X.size;have nr:=ou.trans (X.mono ou.size);have d43:=(nr.cell (p:=⟨g,k*5+4,none⟩) hg).trans d4;obtain⟨e03,e13,e23,e33,_,_,_,_,_⟩:=bw ((X.block _ (lt_of_heap Gp.out)).trans Gp.out);by_cases Et:j<body.length
      ·have Y:=ae HQB.out nr;obtain⟨bg,RO,K7,yA,Jp⟩:=aA Y;subst RO;obtain⟨x0,x1,x2,x3⟩:=jD body j Et;have x0:=Jp _ _ x0;have x1:=Jp _ _ x1;have x2:=Jp _ _ x2;have x3:=Jp _ _ x3;have Fm:=QA.below (HQS.out _ (IN Et)) nr;have D:((body.drop j).any λx=>x.a.af.any (lA t))=((body[j]).a.af.any (lA t)||(body.drop (j+1)).any λx=>x.a.af.any (lA t)):=by
        rw[aan Et,aeJ]
       rw[D,<-Bool.or_assoc]at A;clear D Jp Y;generalize body[j]=x at*;rcases x with⟨y,yt,ytc,yv,yvc⟩;simp only at x0 x1 x2 x3 A;obtain⟨E,hE⟩:∃E,(f||y.af.any (lA t))=E:=⟨_,rfl⟩;rw[hE]at A;have B:=aj hE;clear hE;have VV:=aH Fm.1;simp only at VV;have ajc:=aj Fm;clear Fm
       go_wp2_with fail
       go_loopw [6,9] (λfv nv w4=>∃(f:Bool) (n:Nat),n<=y.af.length/\fv=.bool f/\nv=.int .i64 n/\Below (H.heap.size+1) (H.alloc (.cells #[.string y.pred,.slice yt y.af.length ytc,.slice yv y.af.length yvc,.int .i64 y.at_] 277)) w4/\(f||(y.af.drop n).any (lA t))=E) (λ_ nv _=>y.af.length-(intOf nv).toNat)
       ·exact⟨f,0,IS _,rfl,rfl,aaj _ _,B.out⟩
       ·
        obtain⟨f,n,hn,rfl,rfl,M,W⟩:=hrel;have u:=aj W;clear W B;have Wz:=M.size;simp only[abb]at Wz;obtain⟨y0,y1,y2,y3,_,_,_,_,hly⟩:=bw ((M.block _ (by omega)).trans (By H _));have N1:Below H.heap.size H wr:=aM.trans (M.mono (by omega));have Ng:=X.trans (N1.mono GS);obtain⟨e04,e14,e24,e34,_,_,_,_,Xk⟩:=bw ((Ng.block _ (lt_of_heap Gp.out)).trans Gp.out);have t04:=(Ng.cell (p:=⟨tg,q,none⟩) lJ).trans t0;by_cases Sn:n<y.af.length
        ·have WH:=QA.below ajc.out N1;obtain⟨ug,U,hug,huc,X8⟩:=aA WH.1 (by show 0<y.af.length;omega);obtain⟨sg,V,EM,R7,Wv⟩:=aA WH.2 (by show 0<y.af.length;omega);simp only at U V X8 Wv huc R7;subst U V;have u0:=X8 _ _ (ve y.af n Sn);have s0:=Wv _ _ (su y.af n Sn);clear X8 Wv WH;have D:(y.af.drop n).any (lA t)=((isVar y.af[n]&&decide ((y.af[n]).text=t.text))||(y.af.drop (n+1)).any (lA t)):=by
          rw[aan Sn,aeJ];rfl
         rw[D,<-Bool.or_assoc]at u;clear D;generalize isVar y.af[n]=sv at*;generalize (y.af[n]).text=yx at*;generalize t.text=tx at*;cases f
         case true=>
          go_wp2_with fail
          go_region
          all_goals (go_wp2_with fail)
          all_goals go_roundw
          ·exact⟨true,n+1,by omega,rfl,by go_num,M.drew,by have:=u.out;simpa using this⟩
          ·simp[intOf];omega
         case false=>
          cases sv
          case true=>
           go_wp2_with fail
           go_region
           all_goals (go_wp2_with fail)
           all_goals go_roundw
           ·exact⟨_,n+1,by omega,rfl,by go_num,M.drew,by have:=u.out;rw[jB];simpa using this⟩
           ·simp[intOf];omega
          case false=>
           go_wp2_with fail
           go_region
           all_goals (go_wp2_with fail)
           all_goals go_roundw
           ·exact⟨false,n+1,by omega,rfl,by go_num,M.drew,by have:=u.out;simpa using this⟩
           ·simp[intOf];omega
        ·have B:Hid (f=E):=by
          have:=u.out;rw[abD (by omega)]at this;simpa [Hid]using this
         go_wp2_with fail
         go_roundw
         ·exact⟨f,j+1,by omega,rfl,by go_num,Ng,by rw[B.out];exact A.out⟩
         ·simp[intOf];omega
      ·have B:Hid (f=F):=by
        have:=A.out;rw[abD (by omega)]at this;simpa [Hid]using this
       cases f
       case false=>
        have mB:Hid (R=some a.at_):=HY.out (by rw[<-N.out,<-B.out];rfl)
        go_wp2_with fail
        go_ret;exact⟨Z.trans (nr.mono cp),.inl ⟨a.at_,mB.out,rfl⟩⟩
       case true=>
        have HOn:Hid ((a.af.drop (q+1)).any (Ax.ek (List.map QA.a body))=O):=by
         have:=N.out;rw[<-B.out]at this;simpa [Hid]using this
        go_wp2_with fail
        go_roundw
        ·exact⟨q+1,by omega,by go_num,cX.trans (X.mono (by omega)),HOn.out⟩
        ·simp[intOf];omega
    ·have NH:Hid (Ax.bE ((l.map QR.aw).drop (k+1))=R):=HN.out (by
      rw[<-N.out,abD (by omega)];rfl)
     go_wp2_with fail
     go_roundw
     ·exact⟨k+1,by omega,by go_num,Z.trans (ou.mono cp),NH.out⟩
     ·simp[intOf];omega
  ·have B:Hid (R=none):=by
    have:=HR.out;rw[abD (by simp;omega)]at this;exact this.symm
   go_wp2_with fail
   go_ret;exact⟨Z,.inr ⟨B.out,rfl⟩⟩
