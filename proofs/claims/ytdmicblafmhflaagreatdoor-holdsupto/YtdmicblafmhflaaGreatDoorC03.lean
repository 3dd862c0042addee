/- slices.Insert of one element, at rows and at ints. -/
import Derived.Lib.Overlaps
import Derived.Laws.Externs
import Derived.Test.YtdmicblafmhflaaGreatDoorC02
import Derived.Laws.ResultCell
import Derived.Lib.DecodeN
set_option linter.unusedSimpArgs false
set_option linter.unusedVariables false
set_option maxHeartbeats 4000000
set_option maxRecDepth 100000
namespace Go.Proofs.YtdmicblafmhflaaGreatDoor
open Go.Proofs.Tryz Go.RowKit
variable{a:Act}{e:Array Oper}{nm:ByteArray}{L:List (List ByteArray)}{g pl rc:Nat}{o:Oper}{rd:Option Addr}{P:Program}{T:TypeId}{v':Value}{w' w:World}
theorem jS(w){rest}{Q:Exit->Act->World->Prop}(i:o.guard=none)(d s t t')
 (q:o.op=.call {callee:=.builtin .copy,args:=#[d,s],argTypes:=#[t,t']})(v u)(hd:a.eval d=v)(hs:a.eval s=u)
 (j:(Builtin.copy_ #[t,t'] o.type #[v,u]).run P w=.ok v' w')(h:wpList P e Q rest (a.put o.dst v') w'):wpList P e Q (o::rest) a w:=
 wpList_plain i λ_ x=>by
  unfold Oper.wp execOp;simp only[q,resolve,invoke,builtin,Sem.run_bind,Sem.run_pure,aef,List.map_toArray,abn,adp,hd,hs,j];exact x _ _ h
theorem rj(w){rest}{Q:Exit->Act->World->Prop}(i:o.guard=none)(d s t t')
 (q:o.op=.call {callee:=.builtin .append,args:=#[d,s],argTypes:=#[t,t']})(v u)(hd:a.eval d=v)(hs:a.eval s=u)
 (j:(Builtin.append_ #[t,t'] o.type #[v,u]).run P w=.ok v' w')(h:wpList P e Q rest (a.put o.dst v') w'):wpList P e Q (o::rest) a w:=
 wpList_plain i λ_ x=>by
  unfold Oper.wp execOp;simp only[q,resolve,invoke,builtin,Sem.run_bind,Sem.run_pure,aef,List.map_toArray,abn,adp,hd,hs,j];exact x _ _ h
theorem qJ{K:Act->World->Prop}{Q:Exit->Act->World->Prop}{E:Prop}
 (B:o.guard=none)(d x:Operand)(q j:TypeId)(i:o.op=Op.call {callee:=Callee.builtin Builtin.copy,args:=#[d,x],argTypes:=#[q,j]})
 (v u)(hd:a.eval d=v)(t:a.eval x=u)(A:(Builtin.copy_ #[q,j] o.type #[v,u]).run P w=.ok v' w')(D:K (a.put o.dst v') w'):
 if Region.wanted o (yielded e a.tmps)=true then Oper.wp P o a w K Q else E:=by
 have y:Region.wanted o (yielded e a.tmps)=true:=by simp[Region.wanted,B]
 rw[aa3 y];unfold Oper.wp;simp[execOp,i,resolve,invoke,builtin,hd,t,A,Result.andThen];exact D
theorem K6(l e:List Value)(a k m:Nat)(i:e.length=k)(u:a+k+m<=l.length):
 let c:=(l.take (a+m)).drop a
 let l1:=l.take (a+k)++c++l.drop (a+k+c.length)
 let l2:=l1.take a++e++l1.drop (a+e.length)
 l2.length=l.length/\l2.take (a+k+m)=l.take a++e++c:=by
 intro c l1 l2;have j:c.length=m:=by simp[c];omega
 have t:l1.take a=l.take a:=by
  simp only[l1,aa8];rw[adi (by simp;omega),aez];congr 1;omega
 have q:l1.drop (a+e.length)=c++l.drop (a+k+c.length):=by
  simp only[l1,aa8];rw[List.drop_left' (by simp;omega)]
 have e3:l2=l.take a++e++c++l.drop (a+k+c.length):=by
  simp only[l2,t,q,aa8]
 refine⟨?_, ?_⟩
 ·rw[e3];simp[j,i];omega
 ·rw[e3];exact aeB (by simp[j,i];omega)
theorem I6(l e c:List Value)(a k m:Nat)(i:e.length=k)(q:c.length=m)(u:a+k+m<=l.length):
 let l1:=l.take a++e++l.drop (a+e.length)
 let l2:=l1.take (a+k)++c++l1.drop (a+k+c.length)
 l2.length=l.length/\l2.take (a+k+m)=l.take a++e++c:=by
 intro l1 l2;have j:l1.take (a+k)=l.take a++e:=by
  simp only[l1];exact aeB (by simp;omega)
 have t:l1.length=l.length:=by simp[l1,i];omega
 refine⟨?_, ?_⟩
 ·simp only[l2,If,j,acP,t,q,i,abv];omega
 ·simp only[l2,j];exact aeB (by simp;omega)
theorem Tryz.De:(prog.info? 119).map (λi=>(i.zero,i.size,i.bytes))=some (some (.agg #[.string ByteArray.empty,.string ByteArray.empty,.string ByteArray.empty]),3,48):=by kernel_rfl
theorem Tryz.Tr:(prog.info? 3).map (λi=>(i.zero,i.size,i.bytes))=some (some (.int .i64 0),1,8):=by kernel_rfl
def vO(F O E S K Y:Nat)(Z:Value):Prop:=(F,O,E,S,K,Y,Z)=(245,272,119,113,3,48,.agg #[.string ByteArray.empty,.string ByteArray.empty,.string ByteArray.empty])\/(F,O,E,S,K,Y,Z)=(264,284,3,31,1,8,.int .i64 0)
section
variable {F O E S K Y:Nat} {Z:Value}
theorem vO.und(h:vO F O E S K Y Z):prog.underlying S=some (.slice E):=by
 rcases h with h | h<;>cases h
 ·exact Tryz.underlying113
 ·exact Tryz.underlying31
theorem vO.k(h:vO F O E S K Y Z):K=3\/K=1:=by rcases h with h | h<;>cases h<;>simp
theorem vO.info(h:vO F O E S K Y Z):∃i,prog.info? E=some i/\i.zero=some Z/\i.size=K/\i.bytes=Y:=by
 rcases h with h | h<;>cases h
 ·exact abF Tryz.De
 ·exact abF Tryz.Tr
theorem Wi(A:vO F O E S K Y Z)(w B rd rc n xs i q)(N:w.ownsRow B E K (.slice rd n rc) n xs)(hB:B<=w.heap.size)(hn:n<=1000000)
 (A3:i.length=K)(t:∀(j:Nat) u,i[j]?=some u->w.cell? ⟨q,j,none⟩=some u)(h1:∀u∈i,u.oneCell'=true):
 Calls prog F #[.slice rd n rc,.int .i64 n,.slice (some ⟨q,0,none⟩) 1 1] w λe w'=>∃g cap,e=.returned (.slice (some ⟨g,0,none⟩) (n+1) cap)/\w'.ownsRow B E K (.slice (some ⟨g,0,none⟩) (n+1) cap) (n+1) (xs++i)/\Kb (Value.ownBlock (.slice rd n rc)).toList w w'/\aZ w (.slice rd n rc) (.slice (some ⟨g,0,none⟩) (n+1) cap):=by
 obtain⟨W,H,M,J,I⟩:=A.info;have HU:=aj A.und;obtain⟨X,x⟩:n<=rc/\(rd=none->n=0/\rc=0):=by
  rcases N.2 with⟨y,e2⟩ | ⟨g,cap,cur,y,_,hg,hc,_⟩
  ·simp only[abi]at y;obtain⟨rfl,_,rfl⟩:=y;exact⟨by omega,λ_=>⟨by omega,rfl⟩⟩
  ·simp only[abi]at y;obtain⟨rfl,_,rfl⟩:=y;exact⟨hc,λe=>by cases e⟩
 have Ib:¬((n:Int)<0):=by omega
 have eM:Hid (∀(j:Nat) u,i[j]?=some u->w.cell? ((⟨q,0,none⟩:Addr).add j)=some u):=λj u hj=>by rw[show(⟨q,0,none⟩:Addr).add j=⟨q,j,none⟩ by unfold Addr.add;split<;>simp_all];exact t j u hj
 have HI:=aj H;have H0:=aj M;have H1:=aj J;have H2:=aj I;have h3:(rd=none/\n=0/\rc=0)\/(∃ad,rd=some ad/\(rc=n)=True)\/∃ad,rd=some ad/\(rc=n)=False:=by
  cases rd with
  | none=>exact .inl ⟨rfl,x rfl⟩
  | some ad=>by_cases h:rc=n<;>simp[h]
 clear t H M J I x;rcases A with h | h<;>cases h<;>(first | go_enter func245,ntmps245 | go_enter func264,ntmps264)<;>(rcases h3 with⟨rfl,rfl,rfl⟩ | ⟨ad,rfl,Y2⟩ | ⟨ad,rfl,Y2⟩)
 all_goals
  (go_wp2_with (at_builtin;refine aer _ rfl (.tmp 23) (.tmp 24) _ rfl B _ W _ _ _ HU.out HI.out H0.out H1.out H2.out rfl (by decide) _ _ _ rfl N ⟨q,0,none⟩ 1 1 i rfl (by rw[A3]) eM.out h1 (by decide) eI (by omega) hB w.heap.size rfl ?_;intro g2 U w2 aO bT V zK)
   go_ret;refine⟨g2,U,rfl,aO,Kb.eS bT, ?_⟩;intro b D;simp only[Value.ownBlock,AT]at D;subst D;rcases V with h | h
   ·exact .inl h
   ·exact .inr (by omega))
theorem vO.ov(t:vO F O E S K Y Z){j o lb cb:Nat}{u:List Value}{i:Array Value}(B:j≠g)(D:u.length=K)(q:w.heap[j]?=some (.cells u.toArray E (0,0)))(y:w.heap[g]?=some (.cells i E (0,0)))(A:i.size≠0):(callFunc O #[.slice (some ⟨j,0,none⟩) 1 1,.slice (some ⟨g,o,none⟩) lb cb]).run prog w=.ok (.value (.bool false)) w:=by
 have x:=Lib.run_overlaps_apart w S 4 E t.und K (by rcases t with h | h<;>cases h;exact Tryz.sizeOf119;exact Tryz.sizeOf3) ⟨j,0,none⟩ ⟨g,o,none⟩ 1 1 lb cb B E E K i.size (by simp[World.shape?,q,D]) (by simp[World.shape?,y]) A (by simp[World.frozen?,q]) (by simp[World.frozen?,q]);rcases t with h | h<;>cases h
 ·rw[run_callFunc_extern func272 (by kernel_rfl) (by kernel_rfl) (by kernel_rfl) (e:=Extern.SlicesOverlaps.overlaps #[113,113] #[4]) (by kernel_rfl),x];rfl
 ·rw[run_callFunc_extern func284 (by kernel_rfl) (by kernel_rfl) (by kernel_rfl) (e:=Extern.SlicesOverlaps.overlaps #[31,31] #[4]) (by kernel_rfl),x];rfl
theorem To(t:vO F O E S K Y Z)(w B g n c i D xs x)(aE:w.ownsRow B E K (.slice (some ⟨g,0,none⟩) n c) n xs)(hi:i<n)(pz:n+1<=c)(hn:n<=1000000)(zQ:∀u∈xs,u.oneCell'=true)
 (J:x.length=K)(vK:w.heap[D]?=some (.cells x.toArray E (0,0)))(cB:D≠g)(h1:∀u∈x,u.oneCell'=true):
 Calls prog F #[.slice (some ⟨g,0,none⟩) n c,.int .i64 i,.slice (some ⟨D,0,none⟩) 1 1] w λe w'=>e=.returned (.slice (some ⟨g,0,none⟩) (n+1) c)/\w'.ownsRow B E K (.slice (some ⟨g,0,none⟩) (n+1) c) (n+1) (xs.take (i*K)++x++xs.drop (i*K))/\Kb [g] w w':=by
 have mO:=aE;obtain⟨nP,aO⟩:=aE;rcases aO with⟨e1,e2⟩ | ⟨g',cap,q,e1,K7,X,Y2,MZ,I,Hg⟩
 ·simp at e1
 simp only[abi,AT,aco]at e1;obtain⟨⟨rfl,_⟩,_,rfl⟩:=e1;have hu:=t.und;have hov:=λo lb cb=>t.ov (o:=o) (lb:=lb) (cb:=cb) cB J vK X (by rw[I];rcases t.k with rfl | rfl<;>omega);have cp:(prog.info? E).map (·.size)=some K:=by
  obtain⟨i0,fC,h0,Lu,h2⟩:=t.info;rw[fC];simp[Lu]
 have fK:∀(b o j:Nat),(⟨b,o,none⟩:Addr).add j=⟨b,o+j,none⟩:=by intro b o j;unfold Addr.add;split<;>simp_all
 have eK:∀(j:Nat) u,xs[j]?=some u->w.cell? ⟨g,j,none⟩=some u:=λj u M=>by
  have:=acw mO (g:=g) rfl j u M;rw[fK]at this;simpa using this
 have aol:c<=9223372036854775807:=by unfold maxLen at MZ;omega
 have cz:¬((i:Int)=(n:Int)):=by omega
 have an8:i<=n:=by omega
 have dA:IntKind.i64.wrap ((i:Int)+1)=(i:Int)+1:=by rw[aaR];omega
 have aV:(0:Int)<=(i:Int)+1:=by omega
 have YV:((i:Int)+1).toNat=i+1:=by omega
 have cX:¬(c=i+1):=by omega
 have dp:(i:Int)<=n+1:=by omega
 have jL:¬(c=i):=by omega
 obtain⟨y,W⟩:∃y,y=w.drew.setRow g (q.toList.take (i*K+K)++xs.drop (i*K)++q.toList.drop (i*K+K+(xs.drop (i*K)).length)).toArray:=⟨_,rfl⟩;have Sr:y.heap[g]?=some (.cells (q.toList.take (i*K+K)++xs.drop (i*K)++q.toList.drop (i*K+K+(xs.drop (i*K)).length)).toArray E (0,0)):=by rw[W];exact bQ w.drew g X
 have N:y.heap[D]?=some (.cells x.toArray E (0,0)):=by rw[W,iJ _ _ _ _ cB];exact vK
 have Mo:Kb [g] w y:=by rw[W];exact((Kb.refl [g] w).drew).trans (Kb.setRow w.drew g _)
 obtain⟨A,GO⟩:∃A:List Value,A=q.toList.take (i*K+K)++xs.drop (i*K)++q.toList.drop (i*K+K+(xs.drop (i*K)).length):=⟨_,rfl⟩;obtain⟨U,Hm⟩:∃U,U=y.setRow g (A.take (i*K)++x++A.drop (i*K+x.length)).toArray:=⟨_,rfl⟩;have Yn:Kb [g] w U:=by rw[Hm];exact Mo.trans (Kb.setRow y g _)
 have V:(xs.drop (i*K)).length=(n-i)*K:=by rw[acP,nP];rcases t.k with rfl | rfl<;>omega
 obtain⟨qB,NN⟩:=K6 q.toList x (i*K) K ((n-i)*K) J (by rw[abP,I];rcases t.k with rfl | rfl<;>omega);rw[show q.toList.take (i*K+(n-i)*K)=xs by rw[<-Hg];congr 1;rcases t.k with rfl | rfl<;>omega,<-GO]at qB NN;have QC:∀H dc sc,(Builtin.copy_ #[S,S] H #[.slice (some ⟨g,(i+1)*K,none⟩) (n-i) dc,.slice (some ⟨g,i*K,none⟩) (n+1-i) sc]).run prog w.drew=.ok (goInt ((n-i:Nat):Int)) y:=λH dc sc=>by
  rw[W,Nat.succ_mul];exact fH prog w.drew _ _ H E g _ (n-i) dc ⟨g,i*K,none⟩ (n+1-i) sc q E (xs.drop (i*K)) K (n-i) hu cp X (by simp only[Nat.min_def];split<;>omega) V
   (λj v M=>by rw[fK];exact eK _ _ (by rwa [aeu]at M))
   (by rw[V,I];rcases t.k with rfl | rfl<;>omega) (λv hv=>zQ v (acY hv))
 rw[<-GO]at Sr;have QB:A.length=q.size:=by rw[GO];simp only[If,abv,acP,abP,V,I];rcases t.k with rfl | rfl<;>omega
 have Oy:∀H dc,(Builtin.copy_ #[S,S] H #[.slice (some ⟨g,i*K,none⟩) (n+1-i) dc,.slice (some ⟨D,0,none⟩) 1 1]).run prog y=.ok (goInt 1) U:=λH dc=>by
  rw[Hm];have:=fH prog y S S H E g (i*K) (n+1-i) dc ⟨D,0,none⟩ 1 1 A.toArray E x K 1 hu cp Sr (by simp only[Nat.min_def];split<;>omega) (by rw[J,Nat.one_mul])
   (λj v M=>by rw[fK,acm,aaB _ D j _ _ _ N];simpa using M)
   (by rw[J,abz,QB,I];rcases t.k with rfl | rfl<;>omega) h1
  simpa using this
 have agx:U.ownsRow B E K (.slice (some ⟨g,0,none⟩) (n+1) c) (n+1) (xs.take (i*K)++x++xs.drop (i*K)):=by
  refine⟨by simp only[If,abv,nP,J,V];rcases t.k with rfl | rfl<;>omega,.inr ⟨g,c,_,rfl,K7,by rw[Hm];exact bQ y g Sr,pz,MZ, ?_, ?_⟩⟩
  ·rw[abz,qB,abP,I]
  ·show List.take _ (A.take _++x++A.drop _)=_;rw[show(n+1)*K=i*K+K+(n-i)*K by rcases t.k with rfl | rfl<;>omega,NN];congr 2;rw[<-Hg,aez];congr 1;rcases t.k with rfl | rfl<;>omega
 clear qB NN Hg cp mO J h1 zQ I vK nP V fK eK Sr N Mo GO QB Hm W X;rcases t with h | h<;>cases h
 all_goals
  (try simp only[Nat.mul_one]at QC Oy
   first | go_enter func245,ntmps245 | go_enter func264,ntmps264
   go_wp2_with (simp only[hov])
   go_region_law (refine qJ rfl _ _ _ _ rfl _ _ (by simp[Act.eval,Act.put]) (by simp[Act.eval,Act.put]) (QC _ _ _) ?_)
   go_wp2_with (at_builtin;refine jS _ rfl _ _ _ _ rfl _ _ rfl rfl (Oy _ _) ?_)
   go_ret;exact⟨rfl,agx,Yn⟩)
end
/- slices.Insert where there is no room; Insert of one element. -/
section
variable {F O E S K Y:Nat} {Z:Value}
theorem Tz(q:vO F O E S K Y Z)(w B g n c i V xs J)(aE:w.ownsRow B E K (.slice (some ⟨g,0,none⟩) n c) n xs)(hB:B<=w.heap.size)(hi:i<n)(pz:c<n+1)(hn:n<=1000000)(zQ:∀u∈xs,u.oneCell'=true)
 (W:J.length=K)(vK:w.heap[V]?=some (.cells J.toArray E (0,0)))(h1:∀u∈J,u.oneCell'=true):
 Calls prog F #[.slice (some ⟨g,0,none⟩) n c,.int .i64 i,.slice (some ⟨V,0,none⟩) 1 1] w λe w'=>∃cap,e=.returned (.slice (some ⟨w.heap.size,0,none⟩) (n+1) cap)/\w'.ownsRow B E K (.slice (some ⟨w.heap.size,0,none⟩) (n+1) cap) (n+1) (xs.take (i*K)++J++xs.drop (i*K))/\Kb [] w w':=by
 have mO:=aE;obtain⟨nP,aO⟩:=aE;rcases aO with⟨e1,e2⟩ | ⟨g',cap,cur,e1,K7,hg,Y2,MZ,bA,Hg⟩
 ·simp at e1
 simp only[abi,AT,aco]at e1;obtain⟨⟨rfl,_⟩,_,rfl⟩:=e1;obtain⟨i0,fC,cE,wW,N⟩:=q.info;have hu:=q.und;have x:Z.cells.size=K/\0<K/\(n+1)*Y<=140737488355328/\(n+1-i)*Y<=281474976710656:=by rcases q with h | h<;>cases h<;>exact⟨rfl,by decide,by omega,by omega⟩
 have cz:¬((i:Int)=(n:Int)):=by omega
 have hz3:(c:Int)<n+1:=by omega
 have cp:(prog.info? E).map (·.size)=some K:=by rw[fC];simp[wW]
 have YL:=lt_of_heap hg;have hvw:=lt_of_heap vK;have fK:∀(b o j:Nat),(⟨b,o,none⟩:Addr).add j=⟨b,o+j,none⟩:=by intro b o j;unfold Addr.add;split<;>simp_all
 have eK:∀(j:Nat) u,xs[j]?=some u->w.cell? ⟨g,j,none⟩=some u:=λj u D=>by
  have:=acw mO (g:=g) rfl j u D;rw[fK]at this;simpa using this
 have Ur:(xs.take (i*K)).length=i*K:=by rw[abv,nP];rcases q.k with rfl | rfl<;>omega
 have N3:(xs.drop (i*K)).length=(n-i)*K:=by rw[acP,nP];rcases q.k with rfl | rfl<;>omega
 have hold:(Builtin.firstCells i0.size i (.slice (some ⟨g,0,none⟩) i c)).run prog w.drew=.ok (xs.take (i*K)).toArray w.drew:=by
  rw[wW];exact run_firstCells_some w.drew K i ⟨g,0,none⟩ i c (xs.take (i*K)) Ur (λj v D=>by
   rw[fK,acm];rw[adN]at D;split at D
   ·exact eK j v D
   ·cases D)
 have RS:(n:Int)+1-(i:Int)=((n+1-i:Nat):Int):=by omega
 have U:i+(n+1-i)=n+1:=by omega
 obtain⟨G,hG⟩:∃G,G=grownCap w (n+1) c E:=⟨_,rfl⟩;obtain⟨A,SL⟩:∃A:Array Value,A=(xs.take (i*K)).toArray++Builtin.zeroCells Z.cells (n+1-i)++Builtin.zeroCells Z.cells (G-(n+1)):=⟨_,rfl⟩;have wY:n+1<=G:=by rw[hG];exact grownCap_ge w _ _ _
 have hGm:G<=maxLen:=by rw[hG];exact grownCap_le_maxLen w (n+1) c E eI
 have y:A.size=G*K:=by
  rw[SL];simp only[Array.size_append,abz,Ur,size_zeroCells,x.1];rcases q.k with rfl | rfl<;>omega
 have hRt:A.toList.take (i*K)=xs.take (i*K):=by
  rw[SL];simp only[aeo,aa8];exact aeB Ur
 have X:∀t,(Builtin.append_ #[S,3] t #[.slice (some ⟨g,0,none⟩) i c,.int .i64 ((n:Int)+1-(i:Int))]).run prog w=.ok (.slice (some ⟨w.heap.size,0,none⟩) (n+1) G) (w.drew.alloc (.cells A E)):=λt=>by
  have h:=Lib.run_append_grow_zeros w S 3 t E i0 _ .i64 .i64 hu ade fC cE (some ⟨g,0,none⟩) i c (xs.take (i*K)) hold (n+1-i) (by omega) (by rw[wW];exact x.2.1) (by omega) (by omega) (by rw[N];exact x.2.2.2) (by rw[N,U];exact growslice_fits pz x.2.2.1);rw[U,<-hG,<-SL]at h;rw[RS];exact h
 obtain⟨M,Ay⟩:∃M,M=w.drew.alloc (.cells A E):=⟨_,rfl⟩;rw[<-Ay]at X;have Wc:M.heap[w.heap.size]?=some (.cells A E (0,0)):=by rw[Ay];exact By w.drew _
 have XJ:∀k o,w.heap[k]?=some o->M.heap[k]?=some o:=λk o h=>by
  rw[Ay,aay w.drew _ k (lt_of_heap h)];exact h
 have AZ:g≠w.heap.size:=by omega
 have ape:V≠w.heap.size:=by omega
 obtain⟨I,GO⟩:∃I:List Value,I=A.toList.take (i*K)++J++A.toList.drop (i*K+J.length):=⟨_,rfl⟩;obtain⟨H,Hm⟩:∃H,H=M.setRow w.heap.size I.toArray:=⟨_,rfl⟩;have QC:∀t dc,(Builtin.copy_ #[S,S] t #[.slice (some ⟨w.heap.size,i*K,none⟩) (n+1-i) dc,.slice (some ⟨V,0,none⟩) 1 1]).run prog M=.ok (goInt 1) H:=λt dc=>by
  rw[Hm,GO];have:=fH prog M S S t E w.heap.size (i*K) (n+1-i) dc ⟨V,0,none⟩ 1 1 A E J K 1 hu cp Wc (by simp only[Nat.min_def];split<;>omega) (by rw[W,Nat.one_mul])
   (λj v D=>by rw[fK,acm,aaB _ V j _ _ _ (XJ _ _ vK)];simpa using D)
   (by rw[W,y];rcases q.k with rfl | rfl<;>omega) h1
  simpa using this
 have Yt:H.heap[w.heap.size]?=some (.cells I.toArray E (0,0)):=by rw[Hm];exact bQ M _ Wc
 have QB:I.length=G*K:=by rw[GO];simp only[If,abv,acP,abP,y,W];rcases q.k with rfl | rfl<;>omega
 obtain⟨qB,NN⟩:=I6 A.toList J (xs.drop (i*K)) (i*K) K ((n-i)*K) W N3 (by rw[abP,y];rcases q.k with rfl | rfl<;>omega);rw[<-GO]at qB NN;obtain⟨W3,xu⟩:∃W3,W3=H.drew.setRow w.heap.size (I.take (i*K+K)++xs.drop (i*K)++I.drop (i*K+K+(xs.drop (i*K)).length)).toArray:=⟨_,rfl⟩;have Oy:∀t dc sc,(Builtin.copy_ #[S,S] t #[.slice (some ⟨w.heap.size,(i+1)*K,none⟩) (n-i) dc,.slice (some ⟨g,i*K,none⟩) (n-i) sc]).run prog H.drew=.ok (goInt ((n-i:Nat):Int)) W3:=λt dc sc=>by
  rw[xu,Nat.succ_mul];have:=fH prog H.drew S S t E w.heap.size (i*K+K) (n-i) dc ⟨g,i*K,none⟩ (n-i) sc I.toArray E (xs.drop (i*K)) K (n-i) hu cp Yt (by simp only[Nat.min_def];split<;>omega) N3
   (λj v D=>by
     rw[fK];have e:=eK (i*K+j) v (by rwa [aeu]at D);rw[aaB _ g _ _ _ _ hg]at e;have e2:H.drew.heap[g]?=some (.cells cur E (0,0)):=by
      show H.heap[g]?=_;rw[Hm,iJ _ _ _ _ AZ];exact XJ _ _ hg
     rw[aaB _ g _ _ _ _ e2];exact e)
   (by rw[abz,QB,N3];rcases q.k with rfl | rfl<;>omega) (λv hv=>zQ v (acY hv))
  simpa using this
 have qo:W3.ownsRow B E K (.slice (some ⟨w.heap.size,0,none⟩) (n+1) G) (n+1) (xs.take (i*K)++J++xs.drop (i*K)):=by
  refine⟨by simp only[If,Ur,W,N3];rcases q.k with rfl | rfl<;>omega,.inr ⟨w.heap.size,G,_,rfl,hB,by rw[xu];exact bQ H.drew _ Yt,wY,hGm, ?_, ?_⟩⟩
  ·rw[abz,qB,abP,y]
  ·show List.take _ (I.take _++xs.drop _++I.drop _)=_;rw[show(n+1)*K=i*K+K+(n-i)*K by rcases q.k with rfl | rfl<;>omega,NN,hRt]
 have kJ:Kb [] w W3:=by
  rw[xu,Hm,Ay];exact(((((Kb.refl [] w).drew).alloc _).trans' (Kb.setRow _ _ _) (λk q aL=>by simp at q;omega)).drew).trans' (Kb.setRow _ _ _) (λk q aL=>by simp at q;omega)
 have dA:IntKind.i64.wrap ((i:Int)+1)=(i:Int)+1:=by rw[aaR];omega
 have aV:(0:Int)<=(i:Int)+1:=by omega
 have YV:((i:Int)+1).toNat=i+1:=by omega
 have cX:¬(G=i+1):=by omega
 have jL:¬(G=i):=by omega
 have fR:¬(c=i):=by omega
 have apG:G<=9223372036854775807:=by unfold maxLen at hGm;omega
 have cT:i<=n:=by omega
 have O9:(i:Int)<=n+1:=by omega
 clear qB NN Hg cp mO W h1 zQ bA vK nP N3 fK eK Wc XJ GO QB Hm Ay hg hold Ur fC cE wW N Yt xu SL y hRt hG RS U x;rcases q with h | h<;>cases h
 all_goals
  (try simp only[Nat.mul_one]at QC Oy
   first | go_enter func245,ntmps245 | go_enter func264,ntmps264
   go_wp2_with (first | (at_builtin;refine rj _ rfl _ _ _ 3 rfl _ _ rfl rfl (X _) ?_) | (at_builtin;refine jS _ rfl _ _ _ _ rfl _ _ rfl rfl (QC _ _) ?_))
   go_region_law (refine qJ rfl _ _ _ _ rfl _ _ (by simp[Act.eval,Act.put]) (by simp[Act.eval,Act.put]) (Oy _ _ _) ?_)
   go_wp2_with fail
   go_ret;exact⟨G,rfl,qo,kJ⟩)
theorem xm(x:vO F O E S K Y Z)(w B rd rc n i t xs q)(D:w.ownsRow B E K (.slice rd n rc) n xs)(V:B<=w.heap.size)(hi:i<=n)(U:∀u∈xs,u.oneCell'=true)
 (N:q.length=K)(H:w.heap[t]?=some (.cells q.toArray E (0,0)))(cB:some t≠Value.ownBlock (.slice rd n rc))(M:∀u∈q,u.oneCell'=true)(I:n<=1000000:=by omega):
 Calls prog F #[.slice rd n rc,.int .i64 i,.slice (some ⟨t,0,none⟩) 1 1] w λe w'=>∃g cap,e=.returned (.slice (some ⟨g,0,none⟩) (n+1) cap)/\w'.ownsRow B E K (.slice (some ⟨g,0,none⟩) (n+1) cap) (n+1) (xs.take (i*K)++q++xs.drop (i*K))/\Kb (Value.ownBlock (.slice rd n rc)).toList w w'/\aZ w (.slice rd n rc) (.slice (some ⟨g,0,none⟩) (n+1) cap):=by
 by_cases cT:i=n
 ·subst cT;refine(Wi x w B rd rc i xs q t D V I N (λj u hj=>by rw[aaB _ t j _ _ _ H];simpa using hj) M).mono ?_;rintro e w' ⟨g,cap,rfl,A,y,h4⟩;rw[<-D.1,abS,List.drop_length,aby];exact⟨g,cap,rfl,A,y,h4⟩
 ·obtain⟨g,rfl⟩:∃g,rd=some ⟨g,0,none⟩:=by
   rcases D.2 with⟨_,e2⟩ | ⟨g,cap,cur,W,_⟩
   ·omega
   ·simp only[abi]at W;exact⟨g,W.1⟩
  by_cases X:n+1<=rc
  ·refine(To x w B g n rc i t xs q D (by omega) X I U N H (λe=>cB (by rw[e];rfl)) M).mono ?_;rintro e w' ⟨rfl,A,y⟩;exact⟨g,rc,rfl,A,y,λb J=>.inl J⟩
  ·refine(Tz x w B g n rc i t xs q D V (by omega) (by omega) I U N H M).mono ?_;rintro e w' ⟨cap,rfl,A,y⟩;refine⟨w.heap.size,cap,rfl,A,y.mono (λk x=>by cases x), ?_⟩;intro b J;simp only[Value.ownBlock,AT]at J;exact .inr (by omega)
end
/- put: a fact's row into a table. -/
open Go.Sort (grow)
structure cW(w:World)(g:Nat)(T:TypeId)(nm:ByteArray)(pl:Nat)(rd:Option Addr)(rc:Nat)(L:List (List ByteArray))(rest:List Value):Prop where
 aY:w.heap[g]?=some (.cells (Value.string nm::.int .i64 pl::.slice rd L.length rc::rest).toArray T (0,0))
 rows:lp w rd rc L
 ord:Tb.Ord L
 type:T≠119
theorem cW.below{rest}(h:cW w g T nm pl rd rc L rest)(e:Below w.heap.size w w'):cW w' g T nm pl rd rc L rest:=
 ⟨by rw[e.block g (lt_of_heap h.aY)];exact h.aY,h.rows.below e,h.ord,h.type⟩
theorem cW.kept{S rest}(h:cW w g T nm pl rd rc L rest)(e:Kb S w w')(j:¬g∈S)(i:∀b,Value.ownBlock (.slice rd L.length rc)=some b->¬b∈S):cW w' g T nm pl rd rc L rest:=
 ⟨e.heap h.aY j,⟨h.rows.three,e.row h.rows.own i⟩,h.ord,h.type⟩
theorem cW.jG{rest}(h:cW w g T nm pl rd rc L rest):w.cell? ⟨g,2,none⟩=some (.slice rd L.length rc)/\w.frozen? ⟨g,2,none⟩=false/\w.cell? ⟨g,1,none⟩=some (.int .i64 pl)/\w.cell? ⟨g,0,none⟩=some (.string nm):=by
 refine⟨?_, ?_, ?_, ?_⟩
 ·rw[aaB _ _ 2 _ _ _ h.aY];simp
 ·simp[World.frozen?,h.aY]
 ·rw[aaB _ _ 1 _ _ _ h.aY];simp
 ·rw[aaB _ _ 0 _ _ _ h.aY];simp
theorem cW.apart{rest}(h:cW w g T nm pl rd rc L rest):¬g∈(Value.ownBlock (.slice rd L.length rc)).toList:=by
 intro i;rcases h.rows.own.2 with⟨e,_⟩ | ⟨t,cap,q,e,_,j,_⟩
 ·rw[e]at i;simp[Value.ownBlock]at i
 ·rw[e]at i;simp only[Value.ownBlock,Option.toList_some,aae]at i;rw[<-i,h.aY]at j;simp only[AT,aa1]at j;exact h.type j.2.1
theorem aC(w:World){e i}(h:w.heap[g]?=some (.cells e T i))(o v):(w.setCell ⟨g,o,none⟩ v).heap[g]?=some (.cells (e.setIfInBounds o v) T i):=by
 rw[setCell_eq_setRow w g o e T i v h];exact bQ w g h
theorem LR{W i rest}(h:cW w g T nm pl rd rc L rest)(B:Below w.heap.size w W){a b c}
 (j:Tb.eZ L [a,b,c]=false){q cap}
 (H:i.ownsRow 0 119 3 (.slice (some ⟨q,0,none⟩) (L.length+1) cap) (L.length+1) ((aT L).take (Tb.pos L [a,b,c]*3)++[.string a,.string b,.string c]++(aT L).drop (Tb.pos L [a,b,c]*3)))
 (D:Kb (Value.ownBlock (.slice rd L.length rc)).toList W i)(M:aZ W (.slice rd L.length rc) (.slice (some ⟨q,0,none⟩) (L.length+1) cap)):
 cW (i.setCell ⟨g,2,none⟩ (.slice (some ⟨q,0,none⟩) (L.length+1) cap)) g T nm pl (some ⟨q,0,none⟩) cap (Tb.put L [a,b,c]) rest/\(Tb.put L [a,b,c]).length=L.length+1/\
  Kb (g::(Value.ownBlock (.slice rd L.length rc)).toList) w (i.setCell ⟨g,2,none⟩ (.slice (some ⟨q,0,none⟩) (L.length+1) cap))/\aZ w (.slice rd L.length rc) (.slice (some ⟨q,0,none⟩) (L.length+1) cap):=by
 have oq:¬[a,b,c]∈L:=λN=>by rw[Tb.bt.2 N]at j;cases j
 have I:Tb.put L [a,b,c]=Tb.ins L [a,b,c]:=by unfold Tb.put;rw[j];rfl
 have hlen:(Tb.put L [a,b,c]).length=L.length+1:=by
  rw[I];have:=Tb.tY L [a,b,c];simp only[Tb.ins,If,abL,abv,acP];omega
 have J:=h.apart;have hblk:i.heap[g]?=_:=D.heap (by rw[B.block g (lt_of_heap h.aY)];exact h.aY) J;have u:uW (Tb.put L [a,b,c]):=by
  intro r y;rcases Tb.CN.1 y with rfl | y
  ·rfl
  ·exact h.rows.three r y
 have V:aT (Tb.put L [a,b,c])=(aT L).take (Tb.pos L [a,b,c]*3)++[.string a,.string b,.string c]++(aT L).drop (Tb.pos L [a,b,c]*3):=by
  rw[I,mw _ h.rows.three,jw _ h.rows.three,Tb.ins,sD];simp[aT]
 have X:q≠g:=by
  rcases H.2 with⟨e,_⟩ | ⟨x,LZ,U,e,_,A,_⟩
  ·simp at e
  ·simp only[abi,AT,aco]at e;obtain⟨⟨rfl,_⟩,_⟩:=e;rintro rfl;rw[hblk]at A;simp only[AT,aa1]at A;exact h.type A.2.1
 refine⟨⟨?_,⟨u, ?_⟩,Tb.K0 h.ord _,h.type⟩,hlen, ?_, ?_⟩
 ·rw[aC i hblk,hlen];rfl
 ·rw[hlen,V];refine(Kb.setCell i ⟨g,2,none⟩ _).row H ?_;intro x t;simp only[Value.ownBlock,AT]at t;subst t;simpa using X
 ·refine Kb.trans' ((Kb.bD B _).trans (D.mono ?_)) (Kb.setCell i _ _) ?_
  ·grind
  ·grind
 ·intro x t;rcases M x t with e | e
  ·exact .inl e
  ·exact .inr (aaK B.size e)
theorem KA(w g nm pl rd rc L){rest}(a b c)(h:cW w g T nm pl rd rc L rest)(hL:L.length<=999999):
 Calls prog 196 #[.pointer (some ⟨g,0,none⟩),.agg #[.string a,.string b,.string c]] w λe w'=>∃rd' rc',
  e=.returned (.tuple #[.int .i64 (Tb.pos L [a,b,c]:Nat),.bool (!Tb.eZ L [a,b,c])])/\cW w' g T nm pl rd' rc' (Tb.put L [a,b,c]) rest/\
   Kb (g::(Value.ownBlock (.slice rd L.length rc)).toList) w w'/\aZ w (.slice rd L.length rc) (.slice rd' (Tb.put L [a,b,c]).length rc'):=by
 obtain⟨w0,t⟩:∃w0,w0=w.alloc (.cells #[.string a,.string b,.string c] 119):=⟨_,rfl⟩;have I:Below w.heap.size w w0:=by rw[t];exact aM
 have D:w0.heap[w.heap.size]?=some (.cells #[.string a,.string b,.string c] 119 (0,0)):=by rw[t];exact By w _
 have V:=mA D;have U:=ow D;have N:=rq D;have j:=h.below I;have q:=ta w0 g rd rc L a b c j.rows j.ord j.jG.1;cases B:Tb.eZ L [a,b,c]with
 | true=>
  rw[B]at q;have FQ:Tb.put L [a,b,c]=L:=by unfold Tb.put;rw[B];rfl
  rw[FQ];generalize Tb.pos L [a,b,c]=ps at q ⊢;clear V U N D B FQ
  go_enter func196,ntmps196
  go_wp2_with fail
  rw[<-t];clear t;refine q.mono ?_;rintro e w1 ⟨rfl,i⟩;have H:Below w.heap.size w w1:=I.trans (i.mono I.size);have et:=h.below H;clear q j h
  go_wp2_with fail
  go_ret2
  exact⟨rd,rc,rfl,et,Kb.bD H _,aZ.refl _ _⟩
 | false=>
  rw[B]at q;have Ob:=aj B;have Xn:∀(x W:World),Below w0.heap.size w0 x->W.heap=(x.alloc (.cells #[.string a,.string b,.string c] 119)).heap->Calls prog 245 #[.slice rd L.length rc,.int .i64 (Tb.pos L [a,b,c]:Nat),.slice (some ⟨x.heap.size,0,none⟩) 1 1] W λe y=>∃A cap,e=.returned (.slice (some ⟨A,0,none⟩) (L.length+1) cap)/\
   (y.ownsRow 0 119 3 (.slice (some ⟨A,0,none⟩) (L.length+1) cap) (L.length+1) ((aT L).take (Tb.pos L [a,b,c]*3)++[.string a,.string b,.string c]++(aT L).drop (Tb.pos L [a,b,c]*3))/\Kb (Value.ownBlock (.slice rd L.length rc)).toList W y/\aZ W (.slice rd L.length rc) (.slice (some ⟨A,0,none⟩) (L.length+1) cap))/\y.cell? ⟨g,2,none⟩=some (.slice rd L.length rc)/\y.frozen? ⟨g,2,none⟩=false:=by
   intro x W i X;have M:=j.below i;have Es:=M.rows.own;have FH:W.ownsRow 0 119 3 (.slice rd L.length rc) L.length (aT L):=by
    have:=Es.alloc (.cells #[.string a,.string b,.string c] 119);refine⟨this.1, ?_⟩;rw[X];exact this.2
   have jI:W.heap[g]?=some (.cells (Value.string nm::.int .i64 pl::.slice rd L.length rc::rest).toArray T (0,0)):=by
    rw[X,aay _ _ _ (lt_of_heap M.aY)];exact M.aY
   refine(xm (.inl rfl) W 0 rd rc L.length (Tb.pos L [a,b,c]) x.heap.size (aT L) [.string a,.string b,.string c] FH (IS _) (Tb.tY _ _) (np L) rfl (by rw[X];exact By x _) ?_ (by intro u hu;simp at hu;rcases hu with rfl | rfl | rfl<;>rfl)).mono ?_
   ·intro hc;have:=(World.ownsRow.lt Es x.heap.size hc.symm).2;omega
   ·rintro e y ⟨A,cap,rfl,h2,h3,h4⟩;have Cx:=h3.heap jI M.apart;exact⟨A,cap,rfl,⟨h2,h3,h4⟩,by rw[aaB _ _ 2 _ _ _ Cx];simp,by simp[World.frozen?,Cx]⟩
  have wQ:=j.jG.1;have ML:=j.jG.2.1;have jy:=lt_of_heap j.aY;have F3:w0.heap.size=w.heap.size+1:=by rw[t];simp
  clear B;generalize As:Tb.pos L [a,b,c]=ps at q Xn ⊢;have Ze:=aj As;clear D As
  go_enter func196,ntmps196
  go_wp2_with fail
  rw[<-t];clear t;refine q.mono ?_;rintro e w1 ⟨rfl,i⟩;have H:Below w.heap.size w w1:=I.trans (i.mono I.size);have UW:=λW=>Xn w1 W i;have s0:w1.cell? ⟨w.heap.size,0,none⟩=some (.string a):=by rw[i.cell (by show w.heap.size<_;omega)];exact V
  have s1:w1.cell? ⟨w.heap.size,1,none⟩=some (.string b):=by rw[i.cell (by show w.heap.size<_;omega)];exact U
  have s2:w1.cell? ⟨w.heap.size,2,none⟩=some (.string c):=by rw[i.cell (by show w.heap.size<_;omega)];exact N
  have s3:w1.cell? ⟨g,2,none⟩=some (.slice rd L.length rc):=by rw[i.cell (by show g<_;omega)];exact wQ
  have iS:=i.size;have arV:w.heap.size<w1.heap.size:=by omega
  have Xb:g<w1.heap.size:=by omega
  clear q V U N wQ ML Xn j
  go_upto_region 3 with fail
  go_region_with (go_at_call 245;refine(UW _ (by rfl)).mono ?_;rintro e y ⟨A,cap,rfl,J,k2,kf⟩)
  all_goals
   (obtain⟨p1,p2,p3,p4⟩:=LR h ((H.alloc H.size _).drew) Ob.out (by rw[Ze.out];exact J.1) J.2.1 J.2.2
    clear J k2 kf UW s0 s1 s2 s3
    go_wp2_with fail
    go_ret2
    exact⟨_,cap,rfl,p1,p3,by rw[p2];exact p4⟩)
variable{s:ByteArray}{l:List ByteArray}{k j i a p f n:Nat}{w wr:World}
namespace Tb
def mZ(l:List ByteArray)(k:Nat):ByteArray:=l.getD k ⟨#[]⟩
def fT(l:List ByteArray):List ByteArray:=[mZ l 0,mZ l 1,mZ l 2]
def de(l:List ByteArray):Array Value:=#[.string (mZ l 0),.string (mZ l 1),.string (mZ l 2)]
theorem O2:mZ (l.take k) j=if j<k then mZ l j else⟨#[]⟩:=by grind [mZ]
theorem xF(i:k<l.length)(q:l.length<=3):(de (l.take k)).setIfInBounds k (.string l[k])=de (l.take (k+1)):=by
 have e:mZ l k=l[k]:=by simp[mZ,ada,i]
 rw[<-e];have j:k<3:=by omega
 unfold de;simp only[O2]
 match k,j with
 | 0,_=>simp[Array.setIfInBounds]
 | 1,_=>simp[Array.setIfInBounds]
 | 2,_=>simp[Array.setIfInBounds]
end Tb
theorem Tb.B1(l)(h:k<3):(Tb.de l)[k]?=some (.string (Tb.mZ l k)):=by
 match k,h with
 | 0,_=>rfl
 | 1,_=>rfl
 | 2,_=>rfl
theorem aU{P j p u e}(h:j.results=#[.cell p e,.tmp u]){tmps g t cs i d}
 (x:tmps.getD p undef=.pointer (some ⟨g,0,none⟩))(A:w.heap[g]?=some (.cells cs t i))
 (q:P.underlying e=some d)(hd:(match d with | .struct _ | .array _ _=>true | _=>false)=true)(y:(P.info? e).map (·.size)=some cs.size):
 (results j tmps).run P w=.ok (.tuple #[.agg cs,tmps.getD u undef]) w:=by
 rw[results_cell_tmp h,x];simp only[asAddr,Sem.run_pure,aef,run_loadVar_row w g t e cs i d A q hd y]
theorem jt{g x y z T e}(h:w.heap[g]?=some (.cells #[x,y,z] T e)){a b c}:
 (((w.setCell ⟨g,0,none⟩ a).setCell ⟨g,1,none⟩ b).setCell ⟨g,2,none⟩ c).heap[g]?=some (.cells #[a,b,c] T e):=by
 have q:=aC w h 0 a;have j:=aC _ q 1 b;have i:=aC _ j 2 c;simpa [Array.setIfInBounds]using i
structure oA(w wr:World)(l:List ByteArray):Prop where
 be:Below w.heap.size w wr
 res:wr.heap[w.heap.size]?=some (.cells #[.string ⟨#[]⟩,.string ⟨#[]⟩,.string ⟨#[]⟩] 119 (0,0))
 row:wr.heap[w.heap.size+1]?=some (.cells (Tb.de l) 119 (0,0))
theorem oA.size(h:oA w wr l):wr.heap.size>=w.heap.size+2:=lt_of_heap h.row
theorem oA.below{w'}(h:oA w wr l)(e:Below wr.heap.size wr w'):oA w w' l:=
 ⟨h.be.trans (e.mono h.be.size),by rw[e.block _ (lt_of_heap h.res)];exact h.res,by rw[e.block _ (lt_of_heap h.row)];exact h.row⟩
theorem oA.set(h:oA w wr l)(k q):Below w.heap.size w (wr.setCell ⟨w.heap.size+1,k,none⟩ (.string q))/\(wr.setCell ⟨w.heap.size+1,k,none⟩ (.string q)).heap[w.heap.size]?=some (.cells #[.string ⟨#[]⟩,.string ⟨#[]⟩,.string ⟨#[]⟩] 119 (0,0))/\(wr.setCell ⟨w.heap.size+1,k,none⟩ (.string q)).heap[w.heap.size+1]?=some (.cells ((Tb.de l).setIfInBounds k (.string q)) 119 (0,0)):=
 ⟨h.be.setCell (p:=⟨w.heap.size+1,k,none⟩) (by simp) _,(abO _ _ _ _ (by simp)).trans h.res,aC _ h.row _ _⟩
theorem K1(w)(g pl:Nat)(names v)(Z:w.cell? ⟨g,1,none⟩=some (.int .i64 pl))(H:w.ownsRow 0 9 1 v names.length (strCells names))(Y:names.length=pl)(h3:names.length<=3)
 (O:∀a,a∈names->Ax.cF a=true)(hs:∀a,a∈names->a.size<=1000)(V:gJ w):
 Calls prog 74 #[.pointer (some ⟨g,0,none⟩),v] w λe w'=>e=.returned (.tuple #[.agg (Tb.de names),.bool true])/\Below w.heap.size w w':=by
 subst Y;obtain⟨ad,ac,RM⟩:=ah H;subst RM;have HT:=aj V;have HV:=aj H;have HN:Hid (∀a,a∈names->Ax.cF a=true/\a.size<=1000):=λa U=>⟨O a U,hs a U⟩;have YL:=abT Z;clear V H O hs;have HS:Hid (oA w ((w.alloc (.cells #[.string ⟨#[]⟩,.string ⟨#[]⟩,.string ⟨#[]⟩] 119)).alloc (.cells #[.string ⟨#[]⟩,.string ⟨#[]⟩,.string ⟨#[]⟩] 119)) (names.take 0)):=
  ⟨aM.alloc (by simp) _,by rw[aay _ _ _ (by simp)];exact By w _,by
   have:=nH w (.cells #[.string ⟨#[]⟩,.string ⟨#[]⟩,.string ⟨#[]⟩] 119) (.cells #[.string ⟨#[]⟩,.string ⟨#[]⟩,.string ⟨#[]⟩] 119);simpa [Tb.de,Tb.mZ]using this⟩
 go_enter func74,ntmps74
 go_wp2_with fail
 go_loopw [20] (λi wr=>∃(k:Nat),k<=names.length/\i=.int .i64 k/\oA w wr (names.take k)) (λi _=>names.length-(intOf i).toNat)
 ·exact⟨0,IS _,rfl,HS.out⟩
 ·
  obtain⟨k,hk,rfl,t⟩:=hrel;have X:=aj t;by_cases B:k<names.length
  ·have W:=ae HV.out t.be;obtain⟨g3,rfl,Cx,tF,M⟩:=aA W;have ca:wr.cell? ⟨g3,k,none⟩=some (.string names[k]):=M k _ (by rw[strCells,ab3,AS B];rfl);have D:Hid (Ax.cF names[k]=true/\names[k].size<=1000):=HN.out _ (IN B);have N:Hid ((Tb.de (names.take k)).setIfInBounds k (.string names[k])=Tb.de (names.take (k+1))):=Tb.xF B h3;have x:=aj B;have Nd:k<3:=by omega
   generalize names[k]=q at ca D N;have cT:Hid (Calls prog 130 #[.string q] wr λe j=>e=.returned (.bool true)/\Hid (oA w j (names.take k))/\j.heap.size>=w.heap.size+2):=by
    refine(xX q wr (Utf8Tabs_below HT.out X.out.be) (by have:=D.out.2;unfold maxLen;omega)).mono ?_;rintro e j ⟨rfl,I⟩;rw[D.out.1];have A:=X.out.below I;exact⟨rfl,A,A.size⟩
   have AG:Hid (∀j,Hid (oA w j (names.take k))->Calls prog 102 #[.string q] j λe u=>e=.returned (.string q)/\Hid (oA w (u.setCell ⟨w.heap.size+1,k,none⟩ (.string q)) (names.take (k+1)))/\u.cell? ⟨w.heap.size+1,k,none⟩=some (.string (Tb.mZ (names.take k) k))/\u.frozen? ⟨w.heap.size+1,k,none⟩=false):=by
    intro j A;refine(uf q j (by have:=D.out.2;omega)).mono ?_;rintro e u ⟨rfl,I⟩;have J:=A.out.below I;refine⟨rfl, ?_, ?_, ?_⟩
    ·have:=J.set k q;rw[N.out]at this;exact⟨this.1,this.2.1,this.2.2⟩
    ·rw[aaB _ _ _ _ _ _ J.row];exact Tb.B1 _ Nd
    ·simp[World.frozen?,J.row]
   clear t W M
   go_wp2_with (first | (go_at_call 130;refine cT.out.mono ?_;rintro e j ⟨rfl,H5,L4⟩) | (go_at_call 102;refine(AG.out _ H5).mono ?_;rintro e u ⟨rfl,H6,U6,WJ⟩))
   go_roundw
   ·exact⟨k+1,x.out,by go_num,H6.out⟩
   ·
    have h9:=x.out;simp[intOf];omega
  ·have E:Hid (oA w wr names):=by
    have e0:names.take k=names:=aaP (by omega);rw[e0]at t;exact t
   have F:wr.heap[w.heap.size+1]?=some (.cells #[.string (Tb.mZ names 0),.string (Tb.mZ names 1),.string (Tb.mZ names 2)] 119 (0,0)):=E.out.row;have y:=E.out.res;have c0:=mA F;have c1:=ow F;have c2:=rq F;have d0:=mA y;have d1:=ow y;have d2:=rq y;have f0:∀o,wr.frozen? ⟨w.heap.size,o,none⟩=false:=λo=>by simp[World.frozen?,y]
   have eB:=E.out.be;clear t F y
   go_wp2_with fail
   refine aaT (v:=.tuple #[.agg (Tb.de names),.bool true]) ?_ rfl ⟨rfl,((eB.setCell (p:=⟨w.heap.size,0,none⟩) (OF _) _).setCell (p:=⟨w.heap.size,1,none⟩) (OF _) _).setCell (p:=⟨w.heap.size,2,none⟩) (OF _) _⟩;refine aeO (aU rfl rfl (jt E.out.res) aeb rfl (by kernel_rfl)) ?_;rfl
/- Plain functions that mirror program's limits: openHead, twoArities, Read. No program here. -/
namespace Ax
def ek(b:List Atom)(t:Term):Bool:=decide (t.kind=1)&&!qh b t
def lE(r:aI):Bool:=r.head.af.any λt=>ek r.body t
def bE:List aI->Option Nat
 | []=>none
 | r::l=>if lE r then some r.head.at_ else bE l
def look(m:List (ByteArray×Nat))(p:ByteArray):Option Nat:=(m.find? λx=>decide (x.1=p)).map Prod.snd
def dt(m:List (ByteArray×Nat)):List Atom->Option Nat
 | []=>none
 | a::l=>
  match look m a.pred with
  | some n=>if n=a.af.length then dt m l else some a.at_
  | none=>dt ((a.pred,a.af.length)::m) l
def read(s:ByteArray):ByteArray×Int×Nat:=
 if 600<s.size then (ByteArray.empty,1,0)
 else match bI (split s) (split s).length 0 []with
  | (none,j)=>(ByteArray.empty,2,((split s)[j]?.map Tok.at_).getD 0)
  | (some rs,_)=>
   match bL 0 [] rs with
   | some p=>(ByteArray.empty,3,p)
   | none=>match dt [] (rs.flatMap aI.atoms)with
    | some p=>(ByteArray.empty,4,p)
    | none=>match bE rs with
     | some p=>(ByteArray.empty,5,p)
     | none=>(⟨((split s).flatMap λt=>t.text.data.toList).toArray⟩,0,0)
end Ax
/- Bounds on what split and the parser give; Read's answers by cases. No program here. -/
namespace Ax
theorem lu(s):∀f p b i,(∀t,t∈i->t.text.size<=s.size)->∀t,t∈bf s f p b i->t.text.size<=s.size
 | 0,_,_,i,h=>by
  intro t e;simp only[bf,ZD,aae]at e;rcases e with e | rfl
  ·exact h t e
  ·exact IS _
 | f+1,p,b,i,h=>by
  unfold bf;have j:∀(k:Int) (n:Nat),∀t,t∈i++[⟨k,p,s.extract p (p+n)⟩]->t.text.size<=s.size:=by
   intro k n t e;simp only[ZD,aae]at e;rcases e with e | rfl
   ·exact h t e
   ·simp only[aca];omega
  split
  ·split
   ·exact lu s f _ _ _ h
   ·simp only;split
    ·exact j _ _
    ·exact lu s f _ _ _ (j _ _)
  ·intro t e;simp only[ZD,aae]at e;rcases e with e | rfl
   ·exact h t e
   ·exact IS _
theorem lh(s):∀t,t∈split s->t.text.size<=s.size:=lu s _ _ _ _ (λ_ h=>by cases h)
theorem zy{q M}(h:∀t,t∈q->t.text.size<=M){a}(e:bY q i=(some a,j)):a.pred.size<=M:=by
 unfold bY at e;split at e
 ·simp at e
 ·grind
theorem qF{A M}(h:∀t,t∈A->t.text.size<=M):∀(f i:Nat) (e:List Atom) {r:List Atom} {j:Nat},(∀a,a∈e->a.pred.size<=M)->bZ A f i e=(some r,j)->(∀a,a∈r->a.pred.size<=M)/\r.length<=e.length+f
 | 0,i,e,r,j,u,q=>by simp[bZ]at q
 | f+1,i,e,r,j,u,q=>by
  rcases y:bY A i with⟨_ | a,B⟩
  ·rw[gj y]at q;simp at q
  ·have F:=zy h y;have E:∀x,x∈e++[a]->x.pred.size<=M:=by
    intro x w;rcases ZD.1 w with w | w
    ·exact u x w
    ·simp at w;subst w;exact F
   by_cases D:aS A B=6
   ·rw[iX y D]at q;have:=qF h f (B+1) _ E q;simp only[If,ab6]at this;exact⟨this.1,by omega⟩
   ·rw[gz y D]at q;simp only[abZ,AT]at q;rw[<-q.1];exact⟨E,by simp⟩
def Fits(M n:Nat)(r:aI):Prop:=r.body.length<=n/\∀a,a∈r.atoms->a.pred.size<=M
theorem JD{q M}(h:∀t,t∈q->t.text.size<=M){r:aI}(e:eX q i=(some r,j)):Fits M q.length r:=by
 rcases w:bY q i with⟨_ | a,D⟩
 ·rw[sI w]at e;simp at e
 ·have E:=zy h w;by_cases y:aS q D=8
  ·rcases B:bZ q q.length (D+1) []with⟨_ | b,F⟩
   ·rw[sF w y B]at e;simp at e
   ·obtain⟨H,I⟩:=qF h _ _ _ (λ_ h=>by cases h) B;by_cases A:aS q F=7
    ·rw[sx w y B A]at e;simp only[abZ,AT]at e;rw[<-e.1];refine⟨by simpa using I, ?_⟩;intro x u;rcases BY.1 u with rfl | u
     ·exact E
     ·exact H x u
    ·rw[tE w y B A]at e;simp at e
  ·by_cases A:aS q D=7
   ·rw[sK w y A]at e;simp only[abZ,AT]at e;rw[<-e.1];refine⟨IS _, ?_⟩;intro x u;rcases BY.1 u with rfl | u
    ·exact E
    ·cases u
   ·rw[sf w y A]at e;simp at e
theorem vt{y M}(h:∀t,t∈y->t.text.size<=M):∀(f i:Nat) (e:List aI) {rs:List aI} {j:Nat},(∀r,r∈e->Fits M y.length r)->bI y f i e=(some rs,j)->(∀r,r∈rs->Fits M y.length r)/\rs.length<=e.length+f
 | 0,i,e,rs,j,q,u=>by simp[bI]at u
 | f+1,i,e,rs,j,q,u=>by
  by_cases B:aS y i=1
  ·rw[kR B]at u;simp only[abZ,AT]at u;rw[<-u.1];exact⟨q,by omega⟩
  ·rcases A:eX y i with⟨_ | r,D⟩
   ·rw[gx B A]at u;simp at u
   ·rw[mV B A]at u;have E:=JD h A;have:=vt h f D (e++[r]) (by
     intro x w;rcases ZD.1 w with w | w
     ·exact q x w
     ·simp at w;subst w;exact E) u
    simp only[If,ab6]at this;exact⟨this.1,by omega⟩
theorem BZ(s):0<(split s).length:=by
 obtain⟨m,t,e,_⟩:=gi s;rw[e];simp
def plain(s:ByteArray):ByteArray:=⟨((split s).flatMap λt=>t.text.data.toList).toArray⟩
theorem xU(h:600<s.size):read s=(ByteArray.empty,1,0):=by simp[read,h]
theorem JL(h:¬600<s.size)(i:bI (split s) (split s).length 0 []=(none,j)){t}(e:(split s)[j]?=some t):read s=(ByteArray.empty,2,t.at_):=by simp[read,h,i,e]
theorem Eg(h:¬600<s.size){rs}(e:bI (split s) (split s).length 0 []=(some rs,j))(i:bL 0 [] rs=some p):read s=(ByteArray.empty,3,p):=by simp[read,h,e,i]
theorem Dl(h:¬600<s.size){rs}(e:bI (split s) (split s).length 0 []=(some rs,j))(q:bL 0 [] rs=none)(i:dt [] (rs.flatMap aI.atoms)=some p):read s=(ByteArray.empty,4,p):=by simp[read,h,e,q,i]
theorem DH(h:¬600<s.size){rs}(e:bI (split s) (split s).length 0 []=(some rs,j))(t:bL 0 [] rs=none)(q:dt [] (rs.flatMap aI.atoms)=none)(i:bE rs=some p):read s=(ByteArray.empty,5,p):=by simp[read,h,e,t,q,i]
theorem Io(h:¬600<s.size){rs}(e:bI (split s) (split s).length 0 []=(some rs,j))(t:bL 0 [] rs=none)(q:dt [] (rs.flatMap aI.atoms)=none)(i:bE rs=none):read s=(plain s,0,0):=by simp[read,plain,h,e,t,q,i]
end Ax
/- Plain functions that mirror the reference's scanner. No program here. -/
namespace Ax
def byte(s:ByteArray)(k:Nat):Nat:=(s.get! k).toNat
theorem fQ(s k):byte s k<256:=(s.get! k).toNat_lt
theorem ej(s k)(h:k<s.size):(s[k]'h).toNat=byte s k:=by
 unfold byte;have e:s.get! k=s[k]'h:=by
  simp[ByteArray.get!,getElem!_pos,h];rfl
 rw[e]
def dZ(s:ByteArray)(i:Nat):Nat->Nat->Nat->Option Nat
 | 0,_,c=>some c
 | m+1,k,c=>if s.size<=i+k\/byte s (i+k)<128\/191<byte s (i+k)then none else dZ s i m (k+1) (c*64+byte s (i+k)-128)
def fE(n lo:Nat):Option Nat->Nat×Nat
 | none=>(0,0)
 | some c=>if c<lo\/1114111<c\/(55296<=c/\c<=57343)then (0,0)else (c,n)
def pt(s:ByteArray)(i:Nat):Nat×Nat:=
 let c:=byte s i
 if c<128 then (c,1)else if c<192 then (0,0)
 else if c<224 then fE 2 128 (dZ s i 1 1 (c-192))
 else if c<240 then fE 3 2048 (dZ s i 2 1 (c-224))
 else if c<248 then fE 4 65536 (dZ s i 3 1 (c-240))
 else (0,0)
def jU(c:Int):Bool:=(decide (97<=c)&&decide (c<=122))||decide (224<=c)
def yW(s:ByteArray)(i n:Nat):Bool:=
 decide (0<(pt s i).2)&&(jU (pt s i).1||(decide (n=0)&&decide (65<=(pt s i).1)&&decide ((pt s i).1<=90))||(decide (0<n)&&decide (48<=(pt s i).1)&&decide ((pt s i).1<=57)))
def cH(s:ByteArray):Nat->Nat->Nat->Nat×Nat
 | 0,i,n=>(i,n)
 | f+1,i,n=>if i<s.size then (if yW s i n then cH s f (i+(pt s i).2) (n+1)else (i,n))else (i,n)
theorem pY(h:¬i<s.size:=by omega):cH s f i n=(i,n):=by cases f<;>simp[cH,h]
theorem rJ(e:yW s i n=false):cH s f i n=(i,n):=by cases f<;>simp[cH,e]
theorem te(h:i<s.size)(e:yW s i n=true):cH s (f+1) i n=cH s f (i+(pt s i).2) (n+1):=by simp[cH,h,e]
theorem FV(s i):∀m k c j,i+k<=s.size->dZ s i m k c=some j->i+k+m<=s.size
 | 0,k,c,j,h,_=>h
 | m+1,k,c,j,h,e=>by
  unfold dZ at e;split at e
  ·simp at e
  ·rename_i q;have:=FV s i m (k+1) _ _ (by omega) e;omega
theorem TP{e m c}(t:n=m+1)(h:i<s.size):i+(fE n e (dZ s i m 1 c)).2<=s.size:=by
 cases j:dZ s i m 1 c with
 | none=>simp[fE];omega
 | some q=>
  have:=FV s i m 1 c q (by omega) j;simp only[fE];split
  ·simp;omega
  ·simp;omega
theorem Pq(s i)(h:i<s.size):i+(pt s i).2<=s.size:=by
 unfold pt;simp only
 repeat' split
 all_goals first | exact TP rfl h | (simp;omega)
theorem KB(h:yW s i n=true):0<(pt s i).2:=by grind [yW,pt]
end Ax
/- Plain functions that mirror the reference's tokens. No program here. -/
namespace Ax
def Dp(s:ByteArray)(a:Nat):Bool:=decide (byte s a=32)||decide (byte s a=10)
def gO(s:ByteArray):Nat->Nat->Nat
 | 0,a=>a
 | f+1,a=>if a<s.size/\Dp s a=true then gO s f (a+1)else a
structure kO where
 kind:Nat
 text:ByteArray
 at_:Nat
def eJ(s:ByteArray)(a:Nat):kO:=
 let x:=cH s s.size a 0
 let c:=byte s a
 if a=s.size then⟨101,⟨#[]⟩,a⟩
 else if 6<x.2 then⟨120,⟨#[]⟩,a⟩
 else if 0<x.2/\65<=c/\c<=90 then⟨118,s.extract a x.1,a⟩
 else if 0<x.2 then⟨110,s.extract a x.1,a⟩
 else if c=40\/c=41\/c=44\/c=46 then⟨c,s.extract a (a+1),a⟩
 else if c=58/\a+1<s.size/\byte s (a+1)=45 then⟨58,⟨#[58,45]⟩,a⟩
 else⟨120,⟨#[]⟩,a⟩
def fZ(s:ByteArray)(a:Nat):kO:=eJ s (gO s s.size a)
theorem G0(h:a<s.size)(e:Dp s a=true):gO s (f+1) a=gO s f (a+1):=by simp[gO,h,e]
theorem gf(h:¬(a<s.size/\Dp s a=true):=by omega):gO s f a=a:=by
 cases f with
 | zero=>rfl
 | succ f=>simp only[gO,aaD h]
theorem yC(s):∀f i n,i<=(cH s f i n).1
 | 0,i,n=>OF _
 | f+1,i,n=>by
  unfold cH;split
  ·split
   ·have:=yC s f (i+(pt s i).2) (n+1);omega
   ·exact OF _
  ·exact OF _
theorem oX(s):∀f i n,i<=s.size->(cH s f i n).1<=s.size
 | 0,i,n,h=>h
 | f+1,i,n,h=>by
  unfold cH;split
  ·rename_i e;split
   ·exact oX s f _ _ (Pq s i e)
   ·exact h
  ·exact h
end Ax
/- The reference's tokens as a list. No program here. -/
namespace Ax
def ft(s:ByteArray):Nat->Nat->List kO->List kO
 | 0,_,acc=>acc
 | f+1,a,acc=>if (fZ s a).kind=101\/(fZ s a).kind=120 then acc++[fZ s a]else ft s f ((fZ s a).at_+(fZ s a).text.size) (acc++[fZ s a])
def Cv(s:ByteArray):List kO:=ft s (s.size+1) 0 []
theorem pG{e}{t:kO}(h:fZ s a=t)(i:t.kind=101\/t.kind=120):ft s (f+1) a e=e++[t]:=by simp[ft,h,i]
theorem xy{e}{t:kO}(h:fZ s a=t)(i:¬(t.kind=101\/t.kind=120)):ft s (f+1) a e=ft s f (t.at_+t.text.size) (e++[t]):=by simp[ft,h,i]
theorem E7(s):∀f a,a<=gO s f a
 | 0,a=>OF _
 | f+1,a=>by
  unfold gO;split
  ·have:=E7 s f (a+1);omega
  ·exact OF _
theorem EB(s):∀f a,a<=s.size->gO s f a<=s.size
 | 0,a,h=>h
 | f+1,a,h=>by
  unfold gO;split
  ·rename_i e;exact EB s f (a+1) (by omega)
  ·exact h
theorem Ee(s):∀f i n,(cH s f i n).2+i<=(cH s f i n).1+n
 | 0,i,n=>by simp[cH];omega
 | f+1,i,n=>by
  unfold cH;split
  ·split
   ·rename_i e;have:=Ee s f (i+(pt s i).2) (n+1);have:=KB e;omega
   ·simp;omega
  ·simp;omega
theorem xJ(s a)(h:a<=s.size):a<=(fZ s a).at_/\(fZ s a).at_<=s.size/\(¬((fZ s a).kind=101\/(fZ s a).kind=120)->1<=(fZ s a).text.size/\(fZ s a).at_+(fZ s a).text.size<=s.size)/\(fZ s a).text.size<=s.size+2/\(fZ s a).kind<256:=by
 have i:=E7 s s.size a;have e:=EB s s.size a h;unfold fZ;generalize gO s s.size a=b at*;have D:=yC s s.size b 0;have B:=oX s s.size b 0 e;have A:=Ee s s.size b 0;have y:=fQ s b;have t:(⟨#[]⟩:ByteArray).size=0:=rfl;unfold eJ;generalize cH s s.size b 0=x at*;simp only;by_cases c1:b=s.size
 ·simp[c1,t];omega
 by_cases c2:6<x.2
 ·simp[c1,c2,t];omega
 by_cases j:0<x.2/\65<=byte s b/\byte s b<=90
 ·simp only[aaD c1,aaD c2,aa3 j,aca];refine⟨i,e,λ_=>?_, ?_,by omega⟩<;>omega
 by_cases q:0<x.2
 ·simp only[aaD c1,aaD c2,aaD j,aa3 q,aca];refine⟨i,e,λ_=>?_, ?_,by omega⟩<;>omega
 by_cases u:byte s b=40\/byte s b=41\/byte s b=44\/byte s b=46
 ·simp only[aaD c1,aaD c2,aaD j,aaD q,aa3 u,aca];refine⟨i,e,λ_=>?_, ?_,by omega⟩<;>omega
 by_cases w:byte s b=58/\b+1<s.size/\byte s (b+1)=45
 ·simp only[aaD c1,aaD c2,aaD j,aaD q,aaD u,aa3 w];have:(⟨#[58,45]⟩:ByteArray).size=2:=rfl;refine⟨i,e,λ_=>?_, ?_,by omega⟩<;>omega
 ·grind
end Ax
/- Tokens of the program as tokens of the reference. No program here. -/
namespace Ax
def kc(k:Int):Nat:=if k=0 then 120 else if k=1 then 101 else if k=2 then 110 else if k=3 then 118 else if k=4 then 40 else if k=5 then 41 else if k=6 then 44 else if k=7 then 46 else 58
def conv(t:Tok):kO:=⟨kc t.kind,t.text,t.at_⟩
def ES(T:List Tok):Prop:=∀t,t∈T->0<=t.kind/\t.kind<=8
theorem Xv:∀k j:Fin 9,kc (k.val:Int)=kc (j.val:Int)->k=j:=by decide
theorem VH(k)(i:0<=k)(u:k<=8)(j)(q:0<=j)(t:j<=8):(((kc k:Nat):Int) != ((kc j:Nat):Int))=decide (k≠j):=by
 rw[abH];simp only[bne_iff_ne,ne_eq,abW,Int.natCast_inj];obtain⟨k,rfl⟩:=Int.eq_ofNat_of_zero_le i;obtain⟨j,rfl⟩:=Int.eq_ofNat_of_zero_le q;have:=Xv ⟨k,by omega⟩ ⟨j,by omega⟩;simp only[Fin.mk.injEq]at this;constructor
 ·intro h e;exact h (by rw[e])
 ·intro h e;exact h (by rw[this e])
theorem xY(k)(q:0<=k)(i:k<=8)(j)(t:0<=j:=by decide)(e:j<=8:=by decide):(((kc k:Nat):Int)==((kc j:Nat):Int))=decide (k=j):=by
 have:=VH k q i j t e;rw[abH]at this ⊢;simp only[bne_iff_ne,ne_eq,abW,aeV]at this ⊢;omega
end Ax
/- The reference reads code points as Go does. No program here. -/
namespace Ax
theorem il(s i):Utf8.decode s i=Lib.decodeN (s.size-i) (byte s i) (byte s (i+1)) (byte s (i+2)) (byte s (i+3)):=Lib.decode_at s i
theorem tW(n e c):fE n e (some c)=if c<e\/1114111<c\/(55296<=c/\c<=57343)then (0,0)else (c,n):=rfl
theorem TF(n i e j q)(b0:i<256)(b1:e<256)(b2:j<256)(I:q<256):
 (if i<128 then (i,1)else if i<192 then (0,0)
   else if i<224 then fE 2 128 (if n<=1\/e<128\/191<e then none else some ((i-192)*64+e-128))
   else if i<240 then fE 3 2048 (if n<=1\/e<128\/191<e then none else if n<=2\/j<128\/191<j then none else some (((i-224)*64+e-128)*64+j-128))
   else if i<248 then fE 4 65536 (if n<=1\/e<128\/191<e then none else if n<=2\/j<128\/191<j then none else if n<=3\/q<128\/191<q then none else some ((((i-240)*64+e-128)*64+j-128)*64+q-128))
   else (0,0))=if Lib.decodeN n i e j q=(65533,1)then (0,0)else Lib.decodeN n i e j q:=by
 have H:(1<n/\e/64=2)↔¬(n<=1\/e<128\/191<e):=by omega
 have F:(2<n/\j/64=2)↔¬(n<=2\/j<128\/191<j):=by omega
 have E:(3<n/\q/64=2)↔¬(n<=3\/q<128\/191<q):=by omega
 by_cases t:i<128
 ·have hd:Lib.decodeN n i e j q=(i,1):=by simp[Lib.decodeN,t]
  rw[hd,aa3 t,aaD (by simp;omega)]
 rw[aaD t];by_cases A:i<192
 ·have hd:Lib.decodeN n i e j q=(65533,1):=by
   unfold Lib.decodeN;rw[aaD t,aaD (by omega),aaD (by omega),aaD (by omega)]
  rw[hd,aa3 A,aa3 rfl]
 rw[aaD A];by_cases y:i<224
 ·rw[aa3 y];by_cases c1:n<=1\/e<128\/191<e
  ·have hd:Lib.decodeN n i e j q=(65533,1):=by
    unfold Lib.decodeN;rw[aaD t,aaD (by omega),aaD (by omega),aaD (by omega)]
   rw[hd,aa3 c1,aa3 rfl];rfl
  ·rw[aaD c1,tW];have u:i%32*64+e%64=(i-192)*64+e-128:=by omega
   have hd:Lib.decodeN n i e j q=if (i-192)*64+e-128>=128 then ((i-192)*64+e-128,2)else (65533,1):=by
    unfold Lib.decodeN;rw[aaD t,aa3 (by omega),u]
   rw[hd];by_cases c:(i-192)*64+e-128>=128
   ·grind
   ·grind
 rw[aaD y];by_cases x:i<240
 ·rw[aa3 x];by_cases c1:n<=1\/e<128\/191<e
  ·have hd:Lib.decodeN n i e j q=(65533,1):=by
    unfold Lib.decodeN;rw[aaD t,aaD (by omega),aaD (by omega),aaD (by omega)]
   rw[hd,aa3 c1,aa3 rfl];rfl
  rw[aaD c1];by_cases c2:n<=2\/j<128\/191<j
  ·have hd:Lib.decodeN n i e j q=(65533,1):=by
    unfold Lib.decodeN;rw[aaD t,aaD (by omega),aaD (by omega),aaD (by omega)]
   rw[hd,aa3 c2,aa3 rfl];rfl
  rw[aaD c2,tW];have u:i%16*4096+e%64*64+j%64=((i-224)*64+e-128)*64+j-128:=by omega
  generalize D:((i-224)*64+e-128)*64+j-128=C at*;have hd:Lib.decodeN n i e j q=if C>=2048/\(C<55296\/(57344<=C/\C<=1114111))then (C,3)else (65533,1):=by
   unfold Lib.decodeN;rw[aaD t,aaD (by omega),aa3 (by omega),u]
  rw[hd];by_cases c:C>=2048/\(C<55296\/(57344<=C/\C<=1114111))
  ·grind
  ·grind
 rw[aaD x];by_cases w:i<248
 ·rw[aa3 w];by_cases c1:n<=1\/e<128\/191<e
  ·have hd:Lib.decodeN n i e j q=(65533,1):=by
    unfold Lib.decodeN;rw[aaD t,aaD (by omega),aaD (by omega),aaD (by omega)]
   rw[hd,aa3 c1,aa3 rfl];rfl
  rw[aaD c1];by_cases c2:n<=2\/j<128\/191<j
  ·have hd:Lib.decodeN n i e j q=(65533,1):=by
    unfold Lib.decodeN;rw[aaD t,aaD (by omega),aaD (by omega),aaD (by omega)]
   rw[hd,aa3 c2,aa3 rfl];rfl
  rw[aaD c2];by_cases B:n<=3\/q<128\/191<q
  ·have hd:Lib.decodeN n i e j q=(65533,1):=by
    unfold Lib.decodeN;rw[aaD t,aaD (by omega),aaD (by omega),aaD (by omega)]
   rw[hd,aa3 B,aa3 rfl];rfl
  rw[aaD B,tW];have u:i%8*262144+e%64*4096+j%64*64+q%64=(((i-240)*64+e-128)*64+j-128)*64+q-128:=by omega
  generalize D:(((i-240)*64+e-128)*64+j-128)*64+q-128=C at*;have hd:Lib.decodeN n i e j q=if C>=65536/\(C<55296\/(57344<=C/\C<=1114111))then (C,4)else (65533,1):=by
   unfold Lib.decodeN;rw[aaD t,aaD (by omega),aaD (by omega),aa3 (by omega),u]
  rw[hd];by_cases c:C>=65536/\(C<55296\/(57344<=C/\C<=1114111))
  ·grind
  ·grind
 rw[aaD w];have hd:Lib.decodeN n i e j q=(65533,1):=by
  unfold Lib.decodeN;rw[aaD t,aaD (by omega),aaD (by omega),aaD (by omega)]
 rw[hd,aa3 rfl]
theorem pT(s i)(h:i<s.size):pt s i=if Utf8.decode s i=(65533,1)then (0,0)else Utf8.decode s i:=by
 rw[il];have b0:=fQ s i;have b1:=fQ s (i+1);have b2:=fQ s (i+2);have x:=fQ s (i+3);have j:(s.size<=i+1)=(s.size-i<=1):=by apply propext;omega
 have e:(s.size<=i+2)=(s.size-i<=2):=by apply propext;omega
 have e3:(s.size<=i+3)=(s.size-i<=3):=by apply propext;omega
 unfold pt;simp only[dZ,j,e,e3,Nat.reduceAdd];generalize byte s i=w at*;generalize byte s (i+1)=u at*;generalize byte s (i+2)=t at*;generalize byte s (i+3)=q at*;have y:0<s.size-i:=by omega
 generalize s.size-i=n at*;clear j e e3 h;exact TF n w u t q b0 b1 b2 x
end Ax
/- The reference's tokens are the program's. No program here. -/
namespace Ax
theorem tV(s i):(s.data.toList.getD i 0).toNat=byte s i:=by
 unfold byte;cases s with
 | mk d=>
  show(d.toList.getD i 0).toNat=(d[i]!).toNat;by_cases h:i<d.size
  ·grind
  ·rw[getElem!_neg d i h];simp[List.getD,h];rfl
theorem eG(s:ByteArray)(p q:Nat):(s.extract p q).data.toList=(s.data.toList.drop p).take (q-p):=by
 exact Lib.extract_data s p q
theorem pL{a b:ByteArray}(h:a.data.toList=b.data.toList):a=b:=by
 rcases a with⟨⟨a⟩⟩;rcases b with⟨⟨b⟩⟩;simp at h;rw[h]
theorem pU(s p q):byte (s.extract p s.size) q=byte s (p+q):=by
 rw[<-tV,<-tV,eG];have:(s.data.toList.drop p).take (s.size-p)=s.data.toList.drop p:=by
  apply aaP;simp
 rw[this];simp[List.getD,aeu]
theorem dO(s:ByteArray)(p:Nat):(s.extract p s.size).size=s.size-p:=by simp
theorem jO(s p q):Utf8.decode (s.extract p s.size) q=Utf8.decode s (p+q):=by
 rw[il,il,dO,pU,pU,pU,pU,Nat.sub_sub];congr 1
theorem CZ(s:ByteArray)(p q:Nat):(s.extract p s.size).extract q (s.extract p s.size).size=s.extract (p+q) s.size:=by
 apply pL;rw[eG,eG,eG,dO,List.drop_take,List.drop_drop,aez];congr 1;omega
end Ax
/- The reference's words are the program's. No program here. -/
namespace Ax
theorem fW(s pos)(h:pos<s.size):1<=(Utf8.decode s pos).2:=by
 by_cases e:(s[pos]'h).toNat<128
 ·rw[decode_ascii s pos h e];exact OF _
 ·exact(decode_high s pos h (by omega)).2
theorem drop_cons(s i)(h:i<s.size):∃a:UInt8,s.data.toList.drop i=a::s.data.toList.drop (i+1)/\a.toNat=byte s i:=by
 have e:i<s.data.toList.length:=by simpa using h
 refine⟨s.data.toList[i],aan e, ?_⟩;rw[<-tV,ada,AS e];rfl
theorem mD(s:ByteArray)(h:¬i<s.size):s.data.toList.drop i=[]:=abD (by simpa using h)
theorem Bv(s:ByteArray)(i:Nat):(s.extract i s.size).data.toList=s.data.toList.drop i:=by
 rw[eG];apply aaP;simp
theorem Xs(s i a b c):pre (s.extract i s.size) ⟨#[a,b,c]⟩=true↔(i+2<s.size/\byte s i=a.toNat/\byte s (i+1)=b.toNat/\byte s (i+2)=c.toNat):=by
 unfold pre;rw[Bv];show List.isPrefixOf [a,b,c] _=true↔_;by_cases t:i<s.size
 ·obtain⟨x,e,B⟩:=drop_cons s i t;by_cases q:i+1<s.size
  ·obtain⟨y,hy,A⟩:=drop_cons s (i+1) q;by_cases j:i+1+1<s.size
   ·obtain⟨z,u,w⟩:=drop_cons s (i+1+1) j;rw[e,hy,u];simp only[List.isPrefixOf,Bool.and_true,acK,aeV];rw[<-B,<-A,<-w];constructor
    ·grind
    ·rintro⟨_,E,D,e3⟩;exact⟨(aeC.1 E).symm,(aeC.1 D).symm,(aeC.1 e3).symm⟩
   ·rw[e,hy,mD s j];simp[List.isPrefixOf];omega
  ·rw[e,mD s q];simp[List.isPrefixOf];omega
 ·rw[mD s t];simp[List.isPrefixOf];omega
theorem Rn(s i a b):pre (s.extract i s.size) ⟨#[a,b]⟩=true↔(i+1<s.size/\byte s i=a.toNat/\byte s (i+1)=b.toNat):=by
 unfold pre;rw[Bv];show List.isPrefixOf [a,b] _=true↔_;by_cases q:i<s.size
 ·obtain⟨x,e,u⟩:=drop_cons s i q;by_cases j:i+1<s.size
  ·obtain⟨y,hy,t⟩:=drop_cons s (i+1) j;rw[e,hy];simp only[List.isPrefixOf,Bool.and_true,acK,aeV];rw[<-u,<-t];constructor
   ·grind
   ·rintro⟨_,A,w⟩;exact⟨(aeC.1 A).symm,(aeC.1 w).symm⟩
  ·rw[e,mD s j];simp[List.isPrefixOf];omega
 ·rw[mD s q];simp[List.isPrefixOf];omega
theorem DK(s i w)(h:i<s.size)(hd:Utf8.decode s i=(65533,w)):
 (w=1/\pre (s.extract i s.size) ⟨#[239,191,189]⟩=false)\/(w=3/\pre (s.extract i s.size) ⟨#[239,191,189]⟩=true):=by
 have b1:=fQ s (i+1);have b2:=fQ s (i+2);have j:=Xs s i 239 191 189;have A:(239:UInt8).toNat=239:=rfl;have y:(191:UInt8).toNat=191:=rfl;have e3:(189:UInt8).toNat=189:=rfl;rw[A,y,e3]at j;by_cases q:i+2<s.size/\byte s i=239/\byte s (i+1)=191/\byte s (i+2)=189
 ·right;refine⟨?_,j.2 q⟩;rw[il]at hd;obtain⟨B,x,u,t⟩:=q;rw[x,u,t]at hd;have:Lib.decodeN (s.size-i) 239 191 189 (byte s (i+3))=(65533,3):=by
   unfold Lib.decodeN;rw[aaD (by omega),aaD (by omega),aa3 (by omega)];rfl
  rw[this]at hd;simp at hd;exact hd.symm
 ·left;have e:pre (s.extract i s.size) ⟨#[239,191,189]⟩=false:=by grind
  refine⟨?_,e⟩;rw[il]at hd;unfold Lib.decodeN at hd;split at hd
  ·simp at hd;omega
  ·grind
theorem uv(s i)(h:i<s.size):small (s.extract i s.size) (Utf8.decode s i).1=(decide (0<(pt s i).2)&&jU (pt s i).1):=by
 rw[pT s i h];rcases hd:Utf8.decode s i with⟨r,w⟩;by_cases j:r=65533
 ·subst j;rcases DK s i w h hd with⟨rfl,e⟩ | ⟨rfl,e⟩
  ·simp[small,e,jU]
  ·simp[small,e,jU]
 ·have q:1<=w:=by have:=fW s i h;rw[hd]at this;exact this
  rw[aaD (by simp[j])];have:(r:Int)≠65533:=by omega
  simp only[small,aaD this,jU];have:decide (0<w)=true:=by simp;omega
  rw[this,aev]
theorem Ff(s)(i:Nat)(h:i<s.size)(e j:Nat)(x:0<e:=by decide)(u:j<65533:=by decide):(decide ((e:Int)<=(Utf8.decode s i).1)&&decide (((Utf8.decode s i).1:Int)<=j))=(decide (0<(pt s i).2)&&(decide (e<=(pt s i).1)&&decide ((pt s i).1<=j))):=by
 rw[pT s i h];rcases hd:Utf8.decode s i with⟨r,w⟩;have q:1<=w:=by have:=fW s i h;rw[hd]at this;exact this
 by_cases t:(r,w)=(65533,1)
 ·grind
 ·grind
end Ax
namespace Ax
theorem kH(s pos)(h:pos<s.size):pos+(Utf8.decode s pos).2<=s.size:=by
 have:=Pq s pos h;rw[pT s pos h]at this;split at this
 ·rename_i e;rw[e];omega
 ·exact this
theorem PE(s i)(h:i<s.size):digit (Utf8.decode s i).1=(decide (0<(pt s i).2)&&(decide (48<=(pt s i).1)&&decide ((pt s i).1<=57))):=Ff s i h 48 57
theorem Jq(s i)(h:i<s.size):fq (Utf8.decode s i).1=(decide (0<(pt s i).2)&&(decide (65<=(pt s i).1)&&decide ((pt s i).1<=90))):=Ff s i h 65 90
theorem OU(s i)(h:i<s.size):yW s i 0=(small (s.extract i s.size) (Utf8.decode s i).1||fq (Utf8.decode s i).1):=by
 rw[uv s i h,Jq s i h];unfold yW;cases decide (0<(pt s i).2)<;>cases jU (pt s i).1<;>simp
theorem Qp(s i n)(h:i<s.size)(j:0<n):yW s i n=(small (s.extract i s.size) (Utf8.decode s i).1||digit (Utf8.decode s i).1):=by
 rw[uv s i h,PE s i h];unfold yW;have:decide (n=0)=false:=by simp;omega
 have e:decide (0<n)=true:=by simp;omega
 rw[this,e];cases decide (0<(pt s i).2)<;>cases jU (pt s i).1<;>simp
theorem CI(s i n)(h:i<s.size)(e:yW s i n=true):(pt s i).2=(Utf8.decode s i).2:=by
 have:=KB e;rw[pT s i h]at this ⊢;split at this
 ·simp at this
 ·rename_i j;rw[aaD j]
theorem BE(s p)(x:p<=s.size):∀f q n e,0<q->0<n->p+q<=s.size->s.size<=p+q+f->s.size<=p+q+e->
 cH s e (p+q) n=(p+(aN (s.extract p s.size) f q n).1,(aN (s.extract p s.size) f q n).2)
 | 0,q,n,e,w,u,y,A,_=>by
  have:p+q=s.size:=by omega
  rw[pY];simp only[aN,dO];congr 1;omega
 | f+1,q,n,e,w,u,y,A,E=>by
  by_cases i:p+q<s.size
  ·have t:q<(s.extract p s.size).size:=by rw[dO];omega
   have hs:stops (s.extract p s.size) q=!yW s (p+q) n:=by
    rw[Qp s (p+q) n i u];unfold stops tail;rw[jO,CZ];have:decide (0<q)=true:=by simp;omega
    rw[this];cases small (s.extract (p+q) s.size) (Utf8.decode s (p+q)).1<;>cases digit (Utf8.decode s (p+q)).1<;>rfl
   unfold aN;rw[aa3 t,hs];cases j:yW s (p+q) n
   ·rw[rJ j];simp
   ·obtain⟨g,rfl⟩:∃g,e=g+1:=⟨e-1,by omega⟩;rw[te i j,CI s (p+q) n i j,jO];have D:=fW s (p+q) i;have B:=kH s (p+q) i;simp only[Bool.not_true,aet,if_false];rw[Nat.add_assoc p q];exact BE s p x f (q+(Utf8.decode s (p+q)).2) (n+1) g (by omega) (by omega) (by omega) (by omega) (by omega)
  ·have t:¬q<(s.extract p s.size).size:=by rw[dO];omega
   rw[pY i];unfold aN;rw[aaD t];have:p+q=s.size:=by omega
   simp only[dO];congr 1;omega
theorem NS(s f p n)(hs:stops s p=false)(h:p<s.size:=by omega):aN s (f+1) p n=aN s f (p+(Utf8.decode s p).2) (n+1):=by simp[aN,h,hs]
theorem Kh(s p)(e:p<s.size)(i:yW s p 0=true):
 cH s s.size p 0=(p+(aN (s.extract p s.size) (s.extract p s.size).size 0 0).1,(aN (s.extract p s.size) (s.extract p s.size).size 0 0).2):=by
 obtain⟨g,q⟩:∃g,s.size=g+1:=⟨s.size-1,by omega⟩;have A:(s.extract p s.size).size=s.size-p:=dO s p;obtain⟨f,t⟩:∃f,(s.extract p s.size).size=f+1:=⟨s.size-p-1,by omega⟩;have x:cH s s.size p 0=cH s g (p+(Utf8.decode s p).2) 1:=by
  conv=>lhs;rw[q]
  rw[te e i,CI s p 0 e i]
 have w:aN (s.extract p s.size) (s.extract p s.size).size 0 0=aN (s.extract p s.size) f ((Utf8.decode s p).2) 1:=by
  have u:stops (s.extract p s.size) 0=false:=by simp[stops]
  have:=NS (s.extract p s.size) f 0 0 u;rw[jO]at this;rw[t,this];simp
 rw[x,w];have y:=fW s p e;have j:=kH s p e;exact BE s p (by omega) f _ 1 g (by omega) (by omega) j (by omega) (by omega)
theorem fw(s p)(e:p<s.size)(c)(j:c<128:=by decide):(Utf8.decode s p).1=c↔byte s p=c:=by
 by_cases i:(s[p]'e).toNat<128
 ·rw[decode_ascii s p e i,ej s p e]
 ·have q:=(decode_high s p e (by omega)).1;rw[ej s p e]at i;constructor<;>intro h<;>omega
theorem mC(s p)(e:p<s.size)(i:byte s p<128:=by omega):Utf8.decode s p=(byte s p,1):=by
 rw[<-ej s p e]at i ⊢;exact decode_ascii s p e i
theorem DV(s p)(e:p<s.size):fq (Utf8.decode s p).1=decide (65<=byte s p/\byte s p<=90):=by
 by_cases i:byte s p<128
 ·rw[mC s p e i];unfold fq;rw[abH];simp;omega
 ·have j:=(decode_high s p e (by rw[ej s p e];omega)).1;have:fq (Utf8.decode s p).1=false:=by
   unfold fq;simp;omega
  rw[this];symm;simp;omega
end Ax
/- The reference's tokens are the program's: lists. No program here. -/
namespace Ax
theorem nI(s:ByteArray)(p:Nat):s.extract p (p+0)=⟨#[]⟩:=by
 apply pL;rw[eG];simp
theorem ja(s p)(e:yW s p 0=false):cH s s.size p 0=(p,0):=rJ e
theorem E1(s p)(e:p<s.size)(j:yW s p 0=true):0<(cH s s.size p 0).2:=by
 obtain⟨g,q⟩:∃g,s.size=g+1:=⟨s.size-1,by omega⟩;have t:cH s s.size p 0=cH s g (p+(pt s p).2) 1:=by
  conv=>lhs;rw[q]
  exact te e j
 rw[t];have:∀f i n,n<=(cH s f i n).2:=by
  intro f
  induction f with
  | zero=>intro i n;exact OF _
  | succ f ih=>
   intro i n;unfold cH;split
   ·grind
   ·exact OF _
 exact this _ _ _
theorem Of(s p)(i:p<s.size):
 eJ s p=conv ⟨(aK (s.extract p s.size) (Utf8.decode s p).1).1,p,s.extract p (p+(aK (s.extract p s.size) (Utf8.decode s p).1).2)⟩:=by
 have j:¬p=s.size:=by omega
 have N:=fw s p i 40;have M:=fw s p i 41;have J:=fw s p i 44;have I:=fw s p i 46;have X:=Rn s p 58 45;rw[show(58:UInt8).toNat=58 from rfl,show(45:UInt8).toNat=45 from rfl]at X;have Y:=OU s p i;have H:=DV s p i;have D:∀c:Nat,c<65->byte s p=c->yW s p 0=false:=by
  intro c A e;rw[Y,H,uv s p i];have SE:pt s p=(c,1):=by simp[pt,e];omega
  rw[SE,e];simp[jU];omega
 unfold aK;by_cases E:((Utf8.decode s p).1:Int)=40
 ·have e:byte s p=40:=N.1 (by omega);rw[aa3 E];unfold eJ;rw[ja s p (D 40 (by decide) e),e];simp[j,conv,kc]
 by_cases F:((Utf8.decode s p).1:Int)=41
 ·have e:byte s p=41:=M.1 (by omega);rw[aaD E,aa3 F];unfold eJ;rw[ja s p (D 41 (by decide) e),e];simp[j,conv,kc]
 by_cases W:((Utf8.decode s p).1:Int)=44
 ·have e:byte s p=44:=J.1 (by omega);rw[aaD E,aaD F,aa3 W];unfold eJ;rw[ja s p (D 44 (by decide) e),e];simp[j,conv,kc]
 by_cases Zm:((Utf8.decode s p).1:Int)=46
 ·have e:byte s p=46:=I.1 (by omega);rw[aaD E,aaD F,aaD W,aa3 Zm];unfold eJ;rw[ja s p (D 46 (by decide) e),e];simp[j,conv,kc]
 rw[aaD E,aaD F,aaD W,aaD Zm];have b4:¬(byte s p=40\/byte s p=41\/byte s p=44\/byte s p=46):=by grind
 by_cases A:pre (s.extract p s.size) ⟨#[58,45]⟩=true
 ·obtain⟨hs,O,Z⟩:=X.1 A;rw[aa3 A];unfold eJ;rw[ja s p (D 58 (by decide) O),aaD j];simp only[O,Z,hs];simp only[conv,kc];have:s.extract p (p+2)=⟨#[58,45]⟩:=by
   apply pL;rw[eG];obtain⟨x,hx,ex⟩:=drop_cons s p i;obtain⟨y,hy,ey⟩:=drop_cons s (p+1) hs;rw[hx,hy];have V:x=58:=aeC.1 (by rw[ex,O];rfl);have U:y=45:=aeC.1 (by rw[ey,Z];rfl);rw[V,U];simp
  rw[this];simp
 rw[aaD A];have Mw:¬(byte s p=58/\p+1<s.size/\byte s (p+1)=45):=fun⟨a,b,c⟩=>A (X.2 ⟨b,a,c⟩);by_cases u:small (s.extract p s.size) (Utf8.decode s p).1=true
 ·have q:yW s p 0=true:=by rw[Y,u];rfl
  have G9:¬(65<=byte s p/\byte s p<=90):=by
   intro h;have:fq (Utf8.decode s p).1=true:=by rw[H];simp;exact h
   unfold fq at this;simp at this;unfold small at u;split at u
   ·omega
   ·simp at u;omega
  have t:=E1 s p i q;rw[aa3 u];unfold eJ word;rw[Kh s p i q]at t ⊢;generalize aN (s.extract p s.size) (s.extract p s.size).size 0 0=x at*;simp only at t;simp only[aaD j];by_cases B:6<x.2
  ·simp only[aa3 B,nI];rfl
  ·have:¬(0<x.2/\65<=byte s p/\byte s p<=90):=λh=>G9 h.2;simp only[aaD B,aaD this,aa3 t];rfl
 rw[aaD u];by_cases w:fq (Utf8.decode s p).1=true
 ·have q:yW s p 0=true:=by rw[Y,w];simp
  have Pp:65<=byte s p/\byte s p<=90:=by rw[H]at w;simpa using w
  have t:=E1 s p i q;rw[aa3 w];unfold eJ word;rw[Kh s p i q]at t ⊢;generalize aN (s.extract p s.size) (s.extract p s.size).size 0 0=x at*;simp only at t;simp only[aaD j];by_cases B:6<x.2
  ·simp only[aa3 B,nI];rfl
  ·simp only[aaD B,aa3 (And.intro t Pp)];rfl
 ·have q:yW s p 0=false:=by grind
  rw[aaD w];unfold eJ;rw[ja s p q];simp only[aaD j,aaD b4,aaD Mw,nI];simp[conv,kc]
end Ax
/- The reference's tokens are the program's: the whole text. No program here. -/
namespace Ax
theorem pH(s):∀f q n,q<=s.size->q<=(aN s f q n).1
 | 0,q,n,h=>h
 | f+1,q,n,h=>by
  unfold aN;split
  ·rename_i e;split
   ·exact OF _
   ·have:=pH s f (q+(Utf8.decode s q).2) (n+1) (kH s q e);omega
  ·exact h
theorem CA(s p):∀f q n F i,0<q->p+q<=s.size->s.size<=p+q+f->s.size<=p+q+F->
 ∃w,s.size<=p+(aN (s.extract p s.size) f q n).1+w/\bf s F (p+q) (p+(aN (s.extract p s.size) f q n).1) i=bf s w (p+(aN (s.extract p s.size) f q n).1) (p+(aN (s.extract p s.size) f q n).1) i
 | 0,q,n,F,i,x,y,A,j=>by
  have e:(aN (s.extract p s.size) 0 q n).1=q:=by simp only[aN,dO];omega
  rw[e];exact⟨F,j,rfl⟩
 | f+1,q,n,F,i,x,y,A,j=>by
  by_cases u:p+q<s.size
  ·have t:q<(s.extract p s.size).size:=by rw[dO];omega
   cases hs:stops (s.extract p s.size) q
   ·have e:aN (s.extract p s.size) (f+1) q n=aN (s.extract p s.size) f (q+(Utf8.decode s (p+q)).2) (n+1):=by
     have:=NS (s.extract p s.size) f q n hs t;rw[jO]at this;exact this
    have E:=fW s (p+q) u;have D:=kH s (p+q) u;have B:=pH (s.extract p s.size) f (q+(Utf8.decode s (p+q)).2) (n+1) (by rw[dO];omega);rw[e];obtain⟨G,rfl⟩:∃G,F=G+1:=⟨F-1,by omega⟩;rw[iy s G (p+q) _ i u (.inl (by omega)),Nat.add_assoc p q];exact CA s p f (q+(Utf8.decode s (p+q)).2) (n+1) G i (by omega) (by omega) (by omega) (by omega)
   ·have e:aN (s.extract p s.size) (f+1) q n=(q,n):=by
     unfold aN;rw[aa3 t,aa3 hs]
    rw[e];exact⟨F,j,rfl⟩
  ·have t:¬q<(s.extract p s.size).size:=by rw[dO];omega
   have e:(aN (s.extract p s.size) (f+1) q n).1=q:=by
    unfold aN;rw[aaD t,dO];omega
   rw[e];exact⟨F,j,rfl⟩
theorem Pv(s p)(x:p<s.size)(k n)(q:aK (s.extract p s.size) (Utf8.decode s p).1=(k,n))(X:k≠0)(F i)(Z:s.size<=p+(F+1)):
 0<n/\p+n<=s.size/\∃t,s.size<=p+n+t/\bf s F (p+(Utf8.decode s p).2) (p+n) i=bf s t (p+n) (p+n) i:=by
 have W:=fW s p x;have D:=kH s p x;have U:∀c:Nat,c<128->((Utf8.decode s p).1:Int)=c->(Utf8.decode s p).2=1:=by
  intro c w h;have Y:=(fw s p x c w).1 (by omega);rw[mC s p x]
 have key:∀c:Nat,c<128->((Utf8.decode s p).1:Int)=c->n=1->(0<n/\p+n<=s.size/\∃t,s.size<=p+n+t/\bf s F (p+(Utf8.decode s p).2) (p+n) i=bf s t (p+n) (p+n) i):=by
  intro c w h E;rw[U c w h,E];grind
 have A:∀j:Int,word (s.extract p s.size) j=(k,n)->(0<n/\p+n<=s.size/\∃t,s.size<=p+n+t/\bf s F (p+(Utf8.decode s p).2) (p+n) i=bf s t (p+n) (p+n) i):=by
  intro j u;unfold word at u;simp only at u;split at u
  ·simp at u;omega
  ·simp only[abZ]at u;obtain⟨_,rfl⟩:=u;obtain⟨f,I⟩:∃f,(s.extract p s.size).size=f+1:=⟨s.size-p-1,by rw[dO];omega⟩;have e:aN (s.extract p s.size) (s.extract p s.size).size 0 0=aN (s.extract p s.size) f ((Utf8.decode s p).2) 1:=by
    have N:stops (s.extract p s.size) 0=false:=by simp[stops]
    have:=NS (s.extract p s.size) f 0 0 N;rw[jO]at this;rw[I,this];simp
   rw[e];have cp:=dO s p;have V:=pH (s.extract p s.size) f ((Utf8.decode s p).2) 1 (by omega);have H:=oK (s.extract p s.size) f ((Utf8.decode s p).2) 1;exact⟨by omega,by omega,CA s p f _ 1 F i (by omega) D (by omega) (by omega)⟩
 unfold aK at q;split at q
 ·grind
 split at q
 ·grind
 split at q
 ·grind
 split at q
 ·grind
 split at q
 ·rename_i w;simp only[abZ]at q;obtain⟨_,rfl⟩:=q;have B:=(Rn s p 58 45).1 w;rw[show(58:UInt8).toNat=58 from rfl,show(45:UInt8).toNat=45 from rfl]at B;obtain⟨y,M,J⟩:=B;have hd:Utf8.decode s p=(58,1):=by rw[mC s p (by omega),M]
  have O:Utf8.decode s (p+1)=(45,1):=by rw[mC s (p+1) y,J]
  refine⟨by omega,by omega, ?_⟩;rw[hd];obtain⟨G,rfl⟩:∃G,F=G+1:=⟨F-1,by omega⟩;refine⟨G,by omega, ?_⟩;rw[iy s G (p+1) (p+2) i y (.inl (by omega)),O];rfl
 split at q
 ·exact A 2 q
 split at q
 ·exact A 3 q
 ·simp at q;omega
theorem mu(s r):0<=(aK s r).1/\(aK s r).1<=8/\(aK s r).1≠1:=by
 unfold aK word;simp only
 repeat' split
 all_goals simp
theorem xw(s p)(e:p<s.size):blank (Utf8.decode s p).1=Dp s p:=by
 unfold blank Dp;have j:=fw s p e 32;have i:=fw s p e 10;rw[abH];simp only[aeR,aeV,abW];omega
theorem Xr(k)(i:0<=k)(e:k<=8)(j:k≠1):(kc k=101\/kc k=120)↔k=0:=by
 have t:kc k=101↔k=1:=by
  have:=xY k i e 1;rw[abH]at this;simp only[aeV,abW]at this;rw[show((kc 1:Nat):Int)=101 from rfl]at this;omega
 have q:kc k=120↔k=0:=by
  have:=xY k i e 0;rw[abH]at this;simp only[aeV,abW]at this;rw[show((kc 0:Nat):Int)=120 from rfl]at this;omega
 omega
theorem yG(s):∀f g a,s.size<=a+f->s.size<=a+g->gO s f a=gO s g a
 | 0,g,a,h,_=>by rw[gf,gf]
 | f+1,0,a,_,h=>by rw[gf,gf]
 | f+1,g+1,a,i,e=>by
  unfold gO;rw[yG s f g (a+1) (by omega) (by omega)]
theorem Hy(s):∀N p,s.size-p<=N->p<=s.size->∀f b i t,s.size<=p+f->b<=p->s.size+1<=p+t->(bf s f p b i).map conv=ft s t p (i.map conv):=by
 intro N
 induction N with
 | zero=>
  intro p M H f b i t I J X;have A:p=s.size:=by omega
  rw[ri s f p b i (by omega)];obtain⟨g,rfl⟩:∃g,t=g+1:=⟨t-1,by omega⟩;have q:fZ s p=⟨101,⟨#[]⟩,s.size⟩:=by
   unfold fZ;rw[gf,A];simp[eJ]
  rw[pG q (.inl rfl)];simp[conv,kc];rfl
 | succ N ih=>
  intro p M H f b i t I J X;by_cases j:p<s.size
  ·obtain⟨F,rfl⟩:∃F,f=F+1:=⟨f-1,by omega⟩;obtain⟨g,rfl⟩:∃g,t=g+1:=⟨t-1,by omega⟩;cases w:Dp s p
   ·
    have E:¬(p<b\/blank (Utf8.decode s p).1=true):=by rw[xw s p j,w];simp;omega
    have u:=mu (s.extract p s.size) (Utf8.decode s p).1;have q:fZ s p=conv ⟨(aK (s.extract p s.size) (Utf8.decode s p).1).1,p,s.extract p (p+(aK (s.extract p s.size) (Utf8.decode s p).1).2)⟩:=by
     unfold fZ;rw[gf (by rw[w];simp)];exact Of s p j
    rcases y:aK (s.extract p s.size) (Utf8.decode s p).1 with⟨k,n⟩;rw[y]at u q;simp only at u q;by_cases x:k=0
    ·rw[nU s F p b i j E k n y x,pG q (.inr (by simp[conv,kc,x]))];simp
    ·rw[th s F p b i j E k n y x];obtain⟨Z,B,Y,D,e⟩:=Pv s p j k n y x F (i++[⟨k,p,s.extract p (p+n)⟩]) (by omega);rw[e];have V:¬((conv ⟨k,p,s.extract p (p+n)⟩).kind=101\/(conv ⟨k,p,s.extract p (p+n)⟩).kind=120):=by
      show ¬(kc k=101\/kc k=120);rw[Xr k u.1 u.2.1 u.2.2];exact x
     rw[xy q V];have U:(conv ⟨k,p,s.extract p (p+n)⟩).at_+(conv ⟨k,p,s.extract p (p+n)⟩).text.size=p+n:=by
      show p+(s.extract p (p+n)).size=p+n;simp only[aca];omega
     rw[U];have:=ih (p+n) (by omega) B Y (p+n) (i++[⟨k,p,s.extract p (p+n)⟩]) g D (OF _) (by omega);rw[this];simp
   ·
    have W:byte s p<128:=by
     simp[Dp]at w;omega
    have hd:=mC s p j W;rw[iy s F p b i j (.inr (by rw[xw s p j,w])),hd];have q:fZ s p=fZ s (p+1):=by
     unfold fZ;obtain⟨m,hm⟩:∃m,s.size=m+1:=⟨s.size-1,by omega⟩;have O:gO s s.size p=gO s m (p+1):=by
      conv=>lhs;rw[hm]
      exact G0 j w
     rw[O,yG s m s.size (p+1) (by omega) (by omega)]
    have:=ih (p+1) (by omega) (by omega) F b i (g+1) (by omega) (by omega) (by omega);rw[this];unfold ft;rw[q]
  ·grind
theorem vw(s):Cv s=(split s).map conv:=(Hy s s.size 0 (by omega) (IS _) s.size 0 [] (s.size+1) (by omega) (OF _) (by omega)).symm
theorem jT(s):∀f p b i,ES i->ES (bf s f p b i)
 | 0,_,_,i,h=>by
  intro t e;simp only[bf,ZD,aae]at e;rcases e with e | rfl
  ·exact h t e
  ·simp
 | f+1,p,b,i,h=>by
  have j:ES (i++[⟨(aK (s.extract p s.size) (Utf8.decode s p).1).1,p,s.extract p (p+(aK (s.extract p s.size) (Utf8.decode s p).1).2)⟩]):=by
   intro t e;simp only[ZD,aae]at e;rcases e with e | rfl
   ·exact h t e
   ·have:=mu (s.extract p s.size) (Utf8.decode s p).1;exact⟨this.1,this.2.1⟩
  unfold bf;split
  ·split
   ·exact jT s f _ _ _ h
   ·simp only;split
    ·exact j
    ·exact jT s f _ _ _ j
  ·intro t e;simp only[ZD,aae]at e;rcases e with e | rfl
   ·exact h t e
   ·simp
theorem GY(s):ES (split s):=jT s _ _ _ _ (λ_ h=>by cases h)
end Ax
/- Texts that are laid out of tokens, with blanks between. No program here. -/
namespace Ax
structure It where
 kind:Nat
 text:ByteArray
def It.of(t:kO):It:=⟨t.kind,t.text⟩
end Ax
/- The plain form of what can be read is read, and is its own plain form. No program here. -/
namespace Ax
def cat(l:List It):List UInt8:=l.flatMap λx=>x.text.data.toList
theorem yY(s a)(h:(eJ s a).kind=101\/(eJ s a).kind=120):(eJ s a).text=⟨#[]⟩:=by
 generalize e:eJ s a=t at*;unfold eJ at e;simp only at e;split at e
 ·rw[<-e]
 split at e
 ·rw[<-e]
 split at e
 ·rw[<-e]at h;simp at h
 split at e
 ·rw[<-e]at h;simp at h
 split at e
 ·grind
 split at e
 ·rw[<-e]at h;simp at h
 ·rw[<-e]
theorem uX(s):∀(f a:Nat) (e:List kO),a<=s.size->(cat ((ft s f a e).map It.of)).length+a<=(cat (e.map It.of)).length+s.size
 | 0,a,e,h=>by simp[ft];omega
 | f+1,a,e,h=>by
  have t:=xJ s a h;have j:(cat ((e++[fZ s a]).map It.of)).length=(cat (e.map It.of)).length+(fZ s a).text.size:=by
   simp[cat,It.of]
  unfold ft;split
  ·rename_i i;have:(fZ s a).text.size=0:=by
    have:=yY s (gO s s.size a) i;unfold fZ;rw[this];rfl
   rw[j];omega
  ·rename_i i;have q:=t.2.2.1 i;have:=uX s f ((fZ s a).at_+(fZ s a).text.size) (e++[fZ s a]) q.2;rw[j]at this;omega
theorem LB(s):(plain s).data.toList=cat ((Cv s).map It.of):=by
 rw[vw];simp[plain,cat,It.of,conv,List.flatMap_map]
theorem IQ(s):(plain s).size<=s.size:=by
 have h:=uX s (s.size+1) 0 [] (IS _);have e:(plain s).size=(plain s).data.toList.length:=by rw[abP];rfl
 rw[e,LB];simp only[cat,adp,adI,adC]at h;simpa [Cv,cat]using h
end Ax
/- Rules over few predicates of fixed places are a program. No program here. -/
namespace Ax
theorem GK{α:Type}[DecidableEq α]:∀(P l:List α),l.Nodup->(∀x,x∈l->x∈P)->l.length<=P.length
 | [],l,_,h=>by
  cases l with
  | nil=>simp
  | cons a l=>exact absurd (h a (by simp)) (by simp)
 | p::P,l,i,h=>by
  have u:(l.erase p).Nodup:=i.erase p;have t:∀x,x∈l.erase p->x∈P:=by
   intro x e;have j:=List.mem_of_mem_erase e;rcases BY.1 (h x j)with rfl | q
   ·exact absurd e (i.not_mem_erase)
   ·exact q
  have:=GK P (l.erase p) u t;have w:l.length<=(l.erase p).length+1:=by
   rw[List.length_erase];split<;>omega
  simp only[abL];omega
end Ax
/- Plain's rules as plain data, and that they are a program. No program here. -/
namespace Ax
def Bp(c:Int)(n:Nat):Nat:=((if c<0 then-(c+1)else c)%(n:Int)).toNat
theorem FC(c n)(h:0<n):Bp c n<n:=by
 unfold Bp;have i:=Int.emod_lt_of_pos (if c<0 then-(c+1)else c) (show(0:Int)<n by omega);have e:=Int.emod_nonneg (if c<0 then-(c+1)else c) (show(n:Int)≠0 by omega);omega
end Ax
/- axiomkeep: pick, name, places, pred, term. -/
theorem F9{c n d}(hd:(if c<0 then-(c+1)else c)=d)(i:0<n)(e:0<=d:=by omega):d.tmod (n:Int)=((Ax.Bp c n:Nat):Int):=by
 unfold Ax.Bp;rw[hd,Int.tmod_eq_emod_of_nonneg e];have:=Int.emod_nonneg d (show(n:Int)≠0 by omega);omega
/- axiomkeep: terms, in. -/
def cj(l:List Nat):List Value:=l.map λ(n:Nat)=>.int .i64 (n:Int)
theorem Eo{w:World}{b e xs n}(hs:xs.length=n)(j:n<=1000)(i:b<=w.heap.size):(w.alloc (.cells xs.toArray e)).ownsRow b e 1 (.slice (some ⟨w.heap.size,0,none⟩) n n) n xs:=
 ⟨by omega,.inr ⟨w.heap.size,n,xs.toArray,rfl,i,By _ _,OF _,by unfold maxLen;omega,by simp[hs],by simp[<-hs]⟩⟩
/- Hold: a fact holds by so many instances more. -/
namespace Tb
def fA(L:List Rw)(C:List Nat)(r:Rw):List Nat:=if eZ L r=true then C else C.take (pos L r)++[0]++C.drop (pos L r)
def qP(L:List Rw)(C:List Nat)(r:Rw)(n:Nat):List Nat:=(fA L C r).set (pos L r) ((fA L C r).getD (pos L r) 0+n)
theorem sL{L}(r):(put L r).length=if eZ L r=true then L.length else L.length+1:=by
 unfold put;split
 ·rfl
 ·have:=tY L r;simp only[ins,If,abL,abv,acP];omega
theorem Ir{L C}(e:C.length=L.length)(r):(fA L C r).length=(put L r).length:=by
 rw[sL];unfold fA;split
 ·exact e
 ·grind
theorem JG{L}(h:Ord L)(r:Rw):pos L r<(put L r).length:=by
 rw[sL];split
 ·rename_i e;exact(abt.1 ((gG h r).2 (bt.1 e))).1
 ·have:=tY L r;omega
theorem SJ{L}(h:Ord L)(r:Rw)(n:Nat)(f:Rw->Nat)(H:¬r∈L->f r=0):qP L (L.map f) r n=(put L r).map (λx=>if x=r then f x+n else f x):=by
 have B:∀x,x∈L.take (pos L r)->x≠r:=by
  intro x i e;have:=(ti h r).1 x i;rw[e,mH]at this;omega
 have t:∀l:List Rw,(∀x,x∈l->x≠r)->l.map (λx=>if x=r then f x+n else f x)=l.map f:=by
  intro l E;refine aep λx i=>?_;rw[aaD (E x i)]
 cases j:eZ L r with
 | true=>
  have J:pos L r<L.length:=(abt.1 ((gG h r).2 (bt.1 j))).1;have F:L[pos L r]=r:=(abt.1 ((gG h r).2 (bt.1 j))).2;have e:L=L.take (pos L r)++r::L.drop (pos L r+1):=by
   conv=>lhs;rw[<-ab7 (pos L r) L]
   rw[aan J,F]
  have D:=h.nodup;rw[e,adn]at D;have y:∀x,x∈L.drop (pos L r+1)->x≠r:=λx i w=>(adH.1 D.2.1).1 (w▸i);unfold qP fA put;rw[j];simp only[if_true];have u:(L.map f).getD (pos L r) 0=f r:=by grind
  rw[u];generalize M:pos L r=p at*;have q:(L.take p).length=p:=by rw[abv];omega
  conv=>rhs;rw[e]
  rw[aa6,abn,t _ B,t _ y,aa3 rfl]
  conv=>lhs;rw[e]
  rw[aa6,abn,ab9 _ _ (by rw[aaL,q];exact OF _),aaL,q,aew,aaE]
 | false=>
  have A:¬r∈L:=λI=>by rw[bt.2 I]at j;cases j
  have N:=tY L r;unfold qP fA put;rw[j];simp only[aet,if_false];have q:((L.map f).take (pos L r)).length=pos L r:=by rw[abv,aaL];omega
  have y:∀x,x∈L.drop (pos L r)->x≠r:=λx i w=>A (w▸acY i);rw[aa8,ab9 _ _ (by rw[q];exact OF _),q,aew];have u:((L.map f).take (pos L r)++([0]++(L.map f).drop (pos L r))).getD (pos L r) 0=0:=by grind
  rw[u];unfold ins;rw[aa6,abn,t _ B,t _ y,aa3 rfl,H A,List.map_take,List.map_drop];rfl
end Tb
