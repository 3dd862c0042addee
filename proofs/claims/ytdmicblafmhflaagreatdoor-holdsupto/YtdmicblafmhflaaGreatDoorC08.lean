/- state.Make. -/
import Derived.Test.YtdmicblafmhflaaGreatDoorC07
import Derived.Deep.MidRow
import Derived.Shelf.Strconv.Itoa3
import Derived.Shelf.LaysM
import Derived.Deep.Cut
set_option linter.unusedSimpArgs false
set_option linter.unusedVariables false
set_option maxHeartbeats 4000000
set_option maxRecDepth 100000
namespace Go.Proofs.YtdmicblafmhflaaGreatDoor
open Go.Proofs.Tryz Go.RowKit Go.Maps
variable{Z:Array Value}{pl:ByteArray}{G:List GT}{U:List Value}{x:Nat}{t:TypeId}{rv:Value}{w W:World}
theorem lL.toG{w' mb N}(h:lL w w' mb G [] N)(hs:∀t,t∈G->t.nm.size<=1000000)(A:(G.map GT.nm).Nodup)(E:G.length<=1000):qS w' mb N/\(N.map jW).Perm (G.map jW):=by
 have q:(N.map jW).Perm (G.map jW):=by simpa using h.data
 have j:(N.map GT.nm).Perm (G.map GT.nm):=by
  have:=q.map Prod.fst;simpa [aey,Function.comp_def,jW]using this
 obtain⟨D,y,B⟩:=h.map;refine⟨⟨iM.of y (by have:=h.my;omega) B,λt i=>(h.cK t i).1,h.apart,j.nodup_iff.2 A,λt i=>?_⟩,q⟩;have:t.nm∈G.map GT.nm:=j.mem_iff.1 (aaN i);obtain⟨u,x,e⟩:=aax.1 this;rw[<-e];exact hs u x
def cO(pl:ByteArray)(rv:Value)(gm hm:Nat)(hd:List UInt8):Array Value:=([Value.string pl,rv,.map (some gm),.map (some hm)]++Rc.dP hd).toArray
theorem yF(o):∀(U:List Value) (k:Nat) (e:Array Value),o+k+U.length<=e.size->
 (U.zipIdx k).foldl (λcs x=>cs.setIfInBounds (o+x.snd) x.fst) e=(e.toList.take (o+k)++U++e.toList.drop (o+k+U.length)).toArray
 | [],k,e,_=>by simp
 | v::U,k,e,i=>by
  rw[abL]at i;rw[List.zipIdx_cons,aeD,yF o U (k+1) _ (by simp;omega)];have q:(e.setIfInBounds (o+k) v).toList.take (o+(k+1))=e.toList.take (o+k)++[v]:=by
   rw[ac2,<-Nat.add_assoc,aaZ,List.take_set_of_le (OF _),List.getElem?_set_self (by simp;omega)];rfl
  have j:(e.setIfInBounds (o+k) v).toList.drop (o+(k+1)+U.length)=e.toList.drop (o+k+(v::U).length):=by
   rw[ac2,List.drop_set_of_lt (by omega),abL];congr 1;omega
  simp only[q,j];simp
def stZ(a b c d:Value):Array Value:=#[a,b,c,d,.int .u8 0,.int .u8 0,.int .u8 0,.int .u8 0,.int .u8 0,.int .u8 0,.int .u8 0,.int .u8 0,.int .u8 0,.int .u8 0,.int .u8 0,.int .u8 0,.int .u8 0,.int .u8 0,.int .u8 0,.int .u8 0,.int .u8 0,.int .u8 0,.int .u8 0,.int .u8 0,.int .u8 0,.int .u8 0,.int .u8 0,.int .u8 0,.int .u8 0,.int .u8 0,.int .u8 0,.int .u8 0,.int .u8 0,.int .u8 0,.int .u8 0,.int .u8 0]
theorem Uc{a b c d}(h:U.length=32):(U.zipIdx).foldl (λcs x=>cs.setIfInBounds (4+x.snd) x.fst) (stZ a b c d)=([a,b,c,d]++U).toArray:=by
 rw[yF 4 U 0 _ (by rw[h];exact OF 36)];have i:(stZ a b c d).toList.take (4+0)=[a,b,c,d]:=rfl;have e:(stZ a b c d).toList.drop (4+0+U.length)=[]:=by rw[h];rfl
 rw[i,e,aby]
structure DQ(w:World)(pl:ByteArray)(rv:Value)(U:List Value)(W:World):Prop where
 be:Below w.heap.size w W
 b0:W.heap[w.heap.size]?=some (.cells #[.string pl,rv] 101 (0,0))
 b1:W.heap[w.heap.size+1]?=some (.cells U.toArray 105 (0,0))
 b2:∃cur:Array Value,W.heap[w.heap.size+2]?=some (.cells cur 107 (0,0))/\cur.size=36
theorem DQ.init(e:Z.size=36):DQ w pl rv U (((w.alloc (.cells #[.string pl,rv] 101)).alloc (.cells U.toArray 105)).alloc (.cells Z 107)):=by
 refine⟨(aM.alloc (by simp) _).alloc (by simp only[abb];omega) _, ?_, ?_,Z, ?_,e⟩
 ·rw[aay _ _ _ (by simp only[abb];omega),aay _ _ _ (by simp)];exact By w _
 ·rw[aay _ _ _ (by simp)];exact nH w _ _
 ·have:=nH (w.alloc (.cells #[.string pl,rv] 101)) (.cells U.toArray 105) (.cells Z 107);simpa using this
theorem DQ.below{W'}(h:DQ w pl rv U W)(e:Below W.heap.size W W'):DQ w pl rv U W':=by
 obtain⟨i,j,q⟩:=h.b2;exact⟨h.be.trans (e.mono h.be.size),by rw[e.block _ (lt_of_heap h.b0)];exact h.b0,by rw[e.block _ (lt_of_heap h.b1)];exact h.b1,i,by rw[e.block _ (lt_of_heap j)];exact j,q⟩
theorem DQ.cells(h:DQ w pl rv U W):W.cell? ⟨w.heap.size,0,none⟩=some (.string pl)/\W.cell? ⟨w.heap.size,1,none⟩=some rv:=⟨by rw[aaB _ _ _ _ _ _ h.b0];rfl,by rw[aaB _ _ _ _ _ _ h.b0];rfl⟩
theorem Gh{t}(h:t∈G):t.L.length<=eA G:=by
 induction G with
 | nil=>cases h
 | cons a G ih=>
  unfold eA at ih ⊢;rw[abn,aee];rcases BY.1 h with rfl | h
  ·omega
  ·have:=ih h;omega
theorem SM(w:World)(pl:ByteArray)(rd)(rc:Nat)(l)(M:gW w rd rc l)(Js:l.length<=8)(O:Pd.One (bo (l.map MR.aw)))(Y:∀p,p∈bo (l.map MR.aw)->p.1.size<=1000000)
 (gm:Nat)(G)(H:qS w gm G)(J:∀p,p∈bo (l.map MR.aw)->p.1∈G.map GT.nm)(hGt:eA G<=40)(hd)(F:hd.length=32)
 (X:∀Q,Pd.qE Q->(∀p,p∈Q↔p∈bo (l.map MR.aw))->(bB (l.map MR.aw) (da Q G)).isSome=true):
 Calls prog 57 #[.agg #[.string pl,.slice rd l.length rc],.map (some gm),.agg (Rc.dP hd).toArray] w λe w'=>∃hm T s Q,e=.returned (.tuple #[.agg (cO pl (.slice rd l.length rc) gm hm hd),.bool true])/\
  Pd.qE Q/\(∀p,p∈Q↔p∈bo (l.map MR.aw))/\bB (l.map MR.aw) (da Q G)=some s/\wR w' hm T s/\T.map mK=Q.reverse/\(∀b,b∈dx hm T->w.heap.size<=b)/\Below w.heap.size w w':=by
 have PJ:∀t,t∈G->t.L.length<=1000:=λt ht=>aaK (Gh ht) (by omega);have R3:Hid (∀W,DQ w pl (.slice rd l.length rc) (Rc.dP hd) W->Calls prog 110 #[.map (some gm)] W λe w'=>e=.returned (.int .i64 (eA G:Nat))/\Hid (DQ w pl (.slice rd l.length rc) (Rc.dP hd) w')/\w'.cell? ⟨w.heap.size,0,none⟩=some (.string pl)/\w'.cell? ⟨w.heap.size,1,none⟩=some (.slice rd l.length rc)):=by
  intro W i;refine(Co W gm G (H.below i.be)).mono ?_;rintro e w' ⟨rfl,j⟩;exact⟨rfl,i.below j,(i.below j).cells.1,(i.below j).cells.2⟩
 have VX:Hid (∀W,Hid (DQ w pl (.slice rd l.length rc) (Rc.dP hd) W)->Calls prog 111 #[.agg #[.string pl,.slice rd l.length rc],.map (some gm)] W λe w'=>∃hm,e=.returned (.tuple #[.map (some hm),.bool true])/\Hid (DQ w pl (.slice rd l.length rc) (Rc.dP hd) w')/\w'.cell? ⟨w.heap.size,0,none⟩=some (.string pl)/\w'.cell? ⟨w.heap.size,1,none⟩=some (.slice rd l.length rc)/\Hid (∃T s Q,Pd.qE Q/\(∀p,p∈Q↔p∈bo (l.map MR.aw))/\bB (l.map MR.aw) (da Q G)=some s/\wR w' hm T s/\T.map mK=Q.reverse/\(∀b,b∈dx hm T->w.heap.size+3<=b))):=by
  intro W i;have i:=i.out;refine(Cg W pl rd rc l (M.below i.be) Js O Y gm G (H.below i.be) J PJ).mono ?_;rintro e w' ⟨Q,D,B⟩;rcases B.ans with⟨hm,T,s,rfl,q1,q2,q3,q4⟩ | ⟨_,q⟩
  ·have aL:w.heap.size+2<W.heap.size:=by
    obtain⟨x,e,_⟩:=i.b2;exact lt_of_heap e
   exact⟨hm,rfl,i.below B.be,(i.below B.be).cells.1,(i.below B.be).cells.2,T,s,Q,D.out.1,D.out.2,q1,q2,q3,λb j=>by have:=q4 b j;omega⟩
  ·have:=X Q D.out.1 D.out.2;rw[q]at this;cases this
 have y:(Rc.dP hd).length=32:=by rw[Rc.dX,F]
 have u:=Rc.wP hd;have gT:cO pl (.slice rd l.length rc) gm=λhm hd=>([Value.string pl,.slice rd l.length rc,.map (some gm),.map (some hm)]++Rc.dP hd).toArray:=rfl;rw[gT];generalize hU:(Rc.dP hd)=U at y u R3 VX ⊢;have eK:(Value.agg U.toArray).cells=U.toArray:=rfl;have VW:∀a b c d:Value,([a,b,c,d]++U).toArray.size=36:=by intros;simp[y]
 clear X M H J Y O
 go_enter func57,ntmps57
 go_wp2_with (first | (go_at_call 110;refine(R3.out _ (by exact DQ.init rfl)).mono ?_;rintro e w1 ⟨rfl,I,c0,c1⟩) | (go_at_call 111;refine(VX.out _ I).mono ?_;rintro e w2 ⟨hm,rfl,E,d0,d1,HE⟩) | (refine aeE rfl _ _ rfl (w.heap.size+1) rfl _ _ _ _ E.out.b1 Tryz.underlying105 rfl (by rw[abz,y];kernel_rfl) ?_) | (obtain⟨x,Z,bA⟩:=E.out.b2;refine wpList_store_row rfl 107 (.tmp 6) (.tmp 27) rfl (w.heap.size+1+1) rfl ([Value.string pl,.slice rd l.length rc,.map (some gm),.map (some hm)]++U).toArray (abu Value.agg (Uc y)) x Z (by simp[y,bA]) ((show(prog.info? 107).map (·.size)=some 36 by kernel_rfl).trans (abu some (VW _ _ _ _).symm)) (by intro v A;simp at A;rcases A with rfl | rfl | rfl | rfl | A;rfl;rfl;rfl;rfl;exact u v A) ?_))
 obtain⟨T,s,Q,e1,e2,e3,e4,e5,V⟩:=HE.out;have N:Kb [w.heap.size+1+1] w2 (w2.setRow (w.heap.size+1+1) (([Value.string pl,.slice rd l.length rc,.map (some gm),.map (some hm)]++U).toArray)):=Kb.setRow _ _ _;refine aaT (v:=.tuple #[.agg ([Value.string pl,.slice rd l.length rc,.map (some gm),.map (some hm)]++U).toArray,.bool true]) ?_ rfl ⟨hm,T,s,Q,by rw[<-hU];rfl,e1,e2,e3,e4.kept N (λb j=>by have:=V b j;simp;omega),e5,λb j=>by have:=V b j;omega,N.aQ E.out.be E.out.be.size (by simp;omega)⟩;refine aeO (aU rfl rfl (bQ w2 _ Z) Tryz.underlying107 rfl ((show(prog.info? 107).map (·.size)=some 36 by kernel_rfl).trans (abu some (VW _ _ _ _).symm))) ?_;rfl
/- axiomkeep: head, walked. -/
theorem qg{w1 o}(e:Below (w.alloc o).heap.size (w.alloc o) w1):w1.heap[w.heap.size]?=some o/\Below w.heap.size w w1/\w.heap.size+1<=w1.heap.size:=by
 have hs:=e.size;simp only[abb]at hs;exact⟨(e.block _ (by simp)).trans (By _ _),aM.trans (e.mono (by simp)),by omega⟩
/- axiomkeep.all: the list as it grows. -/
theorem sV(l f):ax (l++[f])=ax l++[.string f.pred,f.av]:=by simp[ax]
/- Engine.row. -/
section
open Go.RowKit Go.Maps Go.WideMaps Go.WideElems
theorem iM.YK{mb m}(h:iM w mb m){p g}(j:Ax.look m p=some g)(E:p.size<=1000000){e}(A:prog.underlying t=some (.map 9 e))(y:(zeroValue e).run prog w=.ok (.pointer none) w):
 (Instr.lookup t (.map (some mb)) (.string p) true).run prog w=.ok (.tuple #[.pointer (some ⟨g,0,none⟩),.bool true]) w:=by
 obtain⟨n,D,B,F,u⟩:=h.has;obtain⟨v,ps,x,i⟩:=B.look_ok Tryz.fU A y (zd:=.lit (.int .i64 (-1))) (zp:=[]) rfl (key:=.string p) (kl:=bj p) (keyOf_string_mk abK eI);rw[(u p).2 g j]at i;have q:=(u p).1;rw[j]at q;rw[x,lX i,q];rfl
theorem OS(w)(eg hm g pl:Nat)(m p names){av}(y:w.cell? ⟨eg,3,none⟩=some (.map (some hm)))(U:iM w hm m)(hl:Ax.look m p=some g)(hp:p.size<=1000000)
 (x:w.cell? ⟨g,1,none⟩=some (.int .i64 pl))(D:w.ownsRow 0 9 1 av names.length (strCells names))(hlen:names.length=pl)(h3:names.length<=3)(N:∀a,a∈names->Ax.cF a=true)(hs:∀a,a∈names->a.size<=1000)(O:gJ w):
 Calls prog 41 #[.pointer (some ⟨eg,0,none⟩),.agg #[.string p,av]] w λe w'=>e=.returned (.tuple #[.agg (Tb.de names),.bool true])/\Below w.heap.size w w':=by
 subst hlen;obtain⟨ad,ac,nw⟩:=ah D;subst nw;obtain⟨w0,t⟩:∃w0,w0=(w.alloc (.cells #[.string p,.slice ad names.length ac] 48)).alloc (.cells #[.string ⟨#[]⟩,.string ⟨#[]⟩,.string ⟨#[]⟩] 119):=⟨_,rfl⟩;have j:Below w.heap.size w w0:=by rw[t];exact aM.alloc (by simp) _
 have A:w0.heap[w.heap.size]?=some (.cells #[.string p,.slice ad names.length ac] 48 (0,0)):=by rw[t,aay _ _ _ (by simp)];exact By w _
 have H:w0.heap[w.heap.size+1]?=some (.cells #[.string ⟨#[]⟩,.string ⟨#[]⟩,.string ⟨#[]⟩] 119 (0,0)):=by rw[t];exact nH w _ _
 have t0:=mA A;have J:=ow A;have e3:=wj j y;have M:∀W:World,Below w.heap.size w W->(Instr.lookup 103 (.map (some hm)) (.string p) true).run prog W=.ok (.tuple #[.pointer (some ⟨g,0,none⟩),.bool true]) W:=λW q=>(U.below q).YK hl hp adV (Tryz.zeroValue97 W);have aem:=M w0.drew j.drew;have u:Hid (∀W,Below w0.heap.size w0 W->Calls prog 74 #[.pointer (some ⟨g,0,none⟩),.slice ad names.length ac] W λe i=>e=.returned (.tuple #[.agg (Tb.de names),.bool true])/\Hid (Below w.heap.size w i/\i.heap[w.heap.size+1]?=some (.cells #[.string ⟨#[]⟩,.string ⟨#[]⟩,.string ⟨#[]⟩] 119 (0,0)))/\i.cell? ⟨w.heap.size,1,none⟩=some (.slice ad names.length ac)/\
  (∀o,o<3->(i.cell? ⟨w.heap.size+1,o,none⟩)=some (.string ⟨#[]⟩))/\∀o,i.frozen? ⟨w.heap.size+1,o,none⟩=false):=by
  intro W q;have B:Below w.heap.size w W:=j.trans (q.mono j.size);refine(K1 W g names.length names _ (by rw[B.cell (abT x)];exact x) (ae D B) rfl h3 N hs (Utf8Tabs_below O B)).mono ?_;rintro e i ⟨rfl,hb⟩;have F:Below w0.heap.size w0 i:=q.trans (hb.mono q.size);have E:i.heap[w.heap.size+1]?=some (.cells #[.string ⟨#[]⟩,.string ⟨#[]⟩,.string ⟨#[]⟩] 119 (0,0)):=by rw[F.block _ (lt_of_heap H)];exact H
  refine⟨rfl,⟨j.trans (F.mono j.size),E⟩,by rw[F.cell (abT J)];exact J, ?_, ?_⟩
  ·intro o ho;rw[aaB _ _ _ _ _ _ E]
   match o,ho with
   | 0,_=>rfl
   | 1,_=>rfl
   | 2,_=>rfl
  ·intro o;simp[World.frozen?,E]
 have AE:=abT y;have jy:=abT x;have V:Tb.de names=#[.string (Tb.mZ names 0),.string (Tb.mZ names 1),.string (Tb.mZ names 2)]:=rfl;rw[V]at u ⊢;generalize Tb.mZ names 0=x0 at u ⊢;generalize Tb.mZ names 1=Z at u ⊢;generalize Tb.mZ names 2=Y at u ⊢;clear M U D N hs O y x A V H
 go_enter func41,ntmps41
 go_wp2_with fail
 rw[<-t];clear t
 go_region
 go_wp2_with fail
 go_region_held3 (λw'=>w'.cell? ⟨w.heap.size,1,none⟩=some (.slice ad names.length ac)) (go_keep) ((go_at_call 74;refine(u.out _ (by exact(aaj _ _).drew.drew)).mono ?_;rintro e i ⟨rfl,X,d1,dc,I⟩;have d00:=dc 0 (by omega);have d01:=dc 1 (by omega);have d02:=dc 2 (by omega);have df0:=I 0;have df1:=I 1;have df2:=I 2))
 all_goals
  go_wp2_with fail
  refine aaT (v:=.tuple #[.agg #[.string x0,.string Z,.string Y],.bool true]) ?_ rfl ⟨rfl,((X.out.1.setCell (p:=⟨w.heap.size+1,0,none⟩) (by simp) _).setCell (p:=⟨w.heap.size+1,1,none⟩) (by simp) _).setCell (p:=⟨w.heap.size+1,2,none⟩) (by simp) _⟩;refine aeO (aU rfl rfl (jt X.out.2) aeb rfl (by kernel_rfl)) ?_;rfl
end
/- Engine.Ask. -/
theorem QX(names):Tb.de names=#[.string (Tb.mZ names 0),.string (Tb.mZ names 1),.string (Tb.mZ names 2)]:=rfl
structure TH(w w':World):Prop where
 aY:w'.heap[w.heap.size+1]?=some (.cells #[.bool false,.bool false,.int .i64 0] 52 (0,0))
 c0:w'.cell? ⟨w.heap.size+1,0,none⟩=some (.bool false)
 c1:w'.cell? ⟨w.heap.size+1,1,none⟩=some (.bool false)
 c2:w'.cell? ⟨w.heap.size+1,2,none⟩=some (.int .i64 0)
 fz:∀o,w'.frozen? ⟨w.heap.size+1,o,none⟩=false
theorem QW{w2 w'}(h:w2.heap[w.heap.size+1]?=some (.cells #[.bool false,.bool false,.int .i64 0] 52 (0,0)))(i:Below w2.heap.size w2 w'):TH w w':=by
 have e:w'.heap[w.heap.size+1]?=some (.cells #[.bool false,.bool false,.int .i64 0] 52 (0,0)):=by rw[i.block _ (lt_of_heap h)];exact h
 exact⟨e,by rw[aaB _ _ _ _ _ _ e];rfl,by rw[aaB _ _ _ _ _ _ e];rfl,by rw[aaB _ _ _ _ _ _ e];rfl,λo=>by simp[World.frozen?,e]⟩
theorem UB(w eg gm hm G T s t u p names av)(vE:w.cell? ⟨eg,2,none⟩=some (.map (some gm)))(Y:w.cell? ⟨eg,3,none⟩=some (.map (some hm)))
 (O:qS w gm G)(N:wR w hm T s)(ht:t∈G)(hu:u∈T)(htp:t.nm=p)(hup:u.nm=p)(hp:p.size<=1000000)(Ur:t.L.length<=999999)(Ta:u.L.length<=999999)
 (hv:w.ownsRow 0 9 1 av names.length (strCells names))(hlen:names.length=u.pl)(h3:names.length<=3)(hn:∀a,a∈names->Ax.cF a=true)(hs:∀a,a∈names->a.size<=1000)(hT:gJ w):
 Calls prog 21 #[.pointer (some ⟨eg,0,none⟩),.agg #[.string p,av]] w λe w'=>e=.returned (.tuple #[.agg #[.bool (Tb.eZ t.L (Tb.fT names)),.bool (Tb.eZ u.L (Tb.fT names)),.int .i64 (Tb.sU u.L u.C (Tb.fT names):Nat)],.int .i64 0])/\Below w.heap.size w w':=by
 obtain⟨ad,ac,nw⟩:=ah hv;subst nw;obtain⟨w0,cZ⟩:∃w0,w0=(w.alloc (.cells #[.string p,.slice ad names.length ac] 48)).alloc (.cells #[.bool false,.bool false,.int .i64 0] 52):=⟨_,rfl⟩;have I:Below w.heap.size w w0:=by rw[cZ];exact aM.alloc (by simp) _
 have oo:w0.heap[w.heap.size]?=some (.cells #[.string p,.slice ad names.length ac] 48 (0,0)):=by rw[cZ,aay _ _ _ (by simp)];exact By w _
 have eQ:w0.heap[w.heap.size+1]?=some (.cells #[.bool false,.bool false,.int .i64 0] 52 (0,0)):=by rw[cZ];exact nH w _ _
 have t0:=mA oo;have t1:=ow oo;have aar:∀W:World,Below w.heap.size w W->(Instr.lookup 102 (.map (some gm)) (.string p) false).run prog W=.ok (.pointer (some ⟨t.g,0,none⟩)) W:=λW i=>(O.below i).map.look (by rw[<-htp];exact kK O.names ht) hp aec (Tryz.zeroValue122 W);have X6:Ax.look (T.map HT.pk) p=some u.g:=by rw[<-hup];exact sy N.names hu
 have aaI:∀W:World,Below w.heap.size w W->(Instr.lookup 103 (.map (some hm)) (.string p) false).run prog W=.ok (.pointer (some ⟨u.g,0,none⟩)) W:=λW i=>(N.below i).map.look X6 hp adV (Tryz.zeroValue97 W);have B:=(N.cK u hu).qw;have V:=OS w0 eg hm u.g u.pl (T.map HT.pk) p names (by rw[I.cell (abT Y)];exact Y) (N.map.below I) X6 hp (B.below I).jG.2.2.1 (ae hv I) hlen h3 hn hs (Utf8Tabs_below hT I);rw[QX]at V;have VI:Tb.fT names=[Tb.mZ names 0,Tb.mZ names 1,Tb.mZ names 2]:=rfl;rw[VI];generalize Tb.mZ names 0=x at V ⊢;generalize Tb.mZ names 1=q at V ⊢;generalize Tb.mZ names 2=j at V ⊢;have HLG:=aj aar;have HLH:=aj aaI;have M:Hid (∀W,Below w.heap.size w W->Calls prog 42 #[.pointer (some ⟨t.g,0,none⟩),.agg #[.string x,.string q,.string j]] W λe w'=>e=.returned (.bool (Tb.eZ t.L [x,q,j]))/\Below W.heap.size W w'):=λW i=>Kt W t.g x q j ((O.cK t ht).below i) Ur;have J:Hid (∀W,Below w.heap.size w W->Calls prog 42 #[.pointer (some ⟨u.g,0,none⟩),.agg #[.string x,.string q,.string j]] W λe w'=>e=.returned (.bool (Tb.eZ u.L [x,q,j]))/\Below W.heap.size W w'):=λW i=>Kt W u.g x q j (B.below i) Ta;have Jo:Hid (∀W,Below w.heap.size w W->Calls prog 43 #[.pointer (some ⟨u.g,0,none⟩),.agg #[.string x,.string q,.string j]] W λe w'=>e=.returned (.int .i64 (Tb.sU u.L u.C [x,q,j]:Nat))/\Below W.heap.size W w'):=λW i=>LS W u.g x q j ((N.cK u hu).below i) Ta;generalize Tb.eZ t.L [x,q,j]=b0 at M ⊢;generalize Tb.eZ u.L [x,q,j]=b1 at J ⊢;generalize Tb.sU u.L u.C [x,q,j]=n1 at Jo ⊢;have e2:∀W:World,Below w.heap.size w W->W.cell? ⟨eg,2,none⟩=some (.map (some gm)):=λW i=>by rw[i.cell (abT vE)];exact vE
 have e3:∀W:World,Below w.heap.size w W->W.cell? ⟨eg,3,none⟩=some (.map (some hm)):=λW i=>by rw[i.cell (abT Y)];exact Y
 have Ey:Hid (Calls prog 41 #[.pointer (some ⟨eg,0,none⟩),.agg #[.string p,.slice ad names.length ac]] w0 λe w1=>e=.returned (.tuple #[.agg #[.string x,.string q,.string j],.bool true])/\Hid (Below w0.heap.size w0 w1)):=V.mono (λe w1 ⟨a,b⟩=>⟨a,b⟩);have AE:=abT vE;have lJ:t.g<w.heap.size:=lt_of_heap (cW.aY (O.cK t ht));have hug:u.g<w.heap.size:=lt_of_heap B.aY;have hgu:t.g≠u.g:=λe=>by
  have h7:=cW.aY (O.cK t ht);have h8:=B.aY;rw[e,h8]at h7;simp at h7
 have oh:=aj I;have Ue:=aj eQ;have HE2:=aj e2;have HE3:=aj e3;generalize t.g=H at*;generalize u.g=X at*;clear aar aaI VI V hlen htp hup O N ht hu B X6 hv hn hs hT vE Y Ur Ta oo eQ I h3 e2 e3
 go_enter func21,ntmps21
 go_wp2_with fail
 rw[<-cZ];clear cZ;refine Ey.out.mono ?_;rintro e w1 ⟨rfl,jP⟩
 go_wp2_with fail
 have aV:=jP.out;have dU:Below w.heap.size w w1:=oh.out.trans (aV.mono oh.out.size);obtain⟨w2,Z⟩:∃w2,w2=w1.alloc (.cells #[.string x,.string q,.string j] 119):=⟨_,rfl⟩;have U:Below w.heap.size w w2:=by rw[Z];exact dU.alloc dU.size _
 have ou:Below w0.heap.size w0 w2:=by rw[Z];exact aV.alloc aV.size _
 have X2:w2.heap[w1.heap.size]?=some (.cells #[.string x,.string q,.string j] 119 (0,0)):=by rw[Z];exact By w1 _
 have r0:=mA X2;have r1:=ow X2;have r2:=rq X2;have p0:=wj ou t0;have HTR:Hid (w2.heap[w.heap.size+1]?=some (.cells #[.bool false,.bool false,.int .i64 0] 52 (0,0))):=by
  have:=Ue.out;rw[<-ou.block _ (lt_of_heap this)]at this;exact this
 have c2:=HE2.out w2 U;have c3:=HE3.out w2 U;have l1:=HLG.out w2.drew U.drew;have l2:=HLH.out w2.drew U.drew;have F:=aj U;rw[<-Z];have qC:w.heap.size+1<w1.heap.size:=by
  have h9:=lt_of_heap Ue.out;have h8:=aV.size;omega
 have hrn:w1.heap.size≠w.heap.size+1:=by omega
 have aqL:w.heap.size+1≠w1.heap.size:=by omega
 generalize w1.heap.size=D at*;clear Z aV dU ou X2 t0 t1 U jP Ey;obtain⟨E,Yh,hbu⟩:∃f:Nat->Bool,Hid (f H=b0)/\Hid (f X=b1):=⟨λg=>if g=H then b0 else b1,(aa3 rfl:(if H=H then b0 else b1)=b0),(aaD (λe=>hgu e.symm):(if X=H then b0 else b1)=b1)⟩;have HAS:Hid (∀W g,(g=H\/g=X)->Below w2.heap.size w2 W->Calls prog 42 #[.pointer (some ⟨g,0,none⟩),.agg #[.string x,.string q,.string j]] W λe w'=>e=.returned (.bool (E g))/\Below w2.heap.size w2 w'/\w'.cell? ⟨D,0,none⟩=some (.string x)/\w'.cell? ⟨D,1,none⟩=some (.string q)/\w'.cell? ⟨D,2,none⟩=some (.string j)/\TH w w'):=by
  intro W g hg i;have hh:Calls prog 42 #[.pointer (some ⟨g,0,none⟩),.agg #[.string x,.string q,.string j]] W λe w'=>e=.returned (.bool (E g))/\Below W.heap.size W w':=by
   rcases hg with rfl | rfl
   ·rw[Yh.out];exact M.out W (F.out.trans (i.mono F.out.size))
   ·rw[hbu.out];exact J.out W (F.out.trans (i.mono F.out.size))
  refine hh.mono ?_;rintro e w' ⟨rfl,hb⟩;have A:Below w2.heap.size w2 w':=i.trans (hb.mono i.size);exact⟨rfl,A,by rw[A.cell (abT r0)];exact r0,by rw[A.cell (abT r1)];exact r1,by rw[A.cell (abT r2)];exact r2,QW HTR.out A⟩
 have aiH:Hid (∀W,Below w2.heap.size w2 W->Calls prog 43 #[.pointer (some ⟨X,0,none⟩),.agg #[.string x,.string q,.string j]] W λe w'=>e=.returned (.int .i64 (n1:Nat))/\Below w2.heap.size w2 w'/\w'.cell? ⟨D,0,none⟩=some (.string x)/\w'.cell? ⟨D,1,none⟩=some (.string q)/\w'.cell? ⟨D,2,none⟩=some (.string j)/\TH w w'):=by
  intro W i;refine(Jo.out W (F.out.trans (i.mono F.out.size))).mono ?_;rintro e w' ⟨rfl,hb⟩;have A:Below w2.heap.size w2 w':=i.trans (hb.mono i.size);exact⟨rfl,A,by rw[A.cell (abT r0)];exact r0,by rw[A.cell (abT r1)];exact r1,by rw[A.cell (abT r2)];exact r2,QW HTR.out A⟩
 have lF:Hid (Below w2.heap.size w2 w2.drew.drew):=(aaj _ _).drew.drew;clear M J Jo
 go_region
 go_wp2_with fail
 clear hgu qC c2 c3 l1 l2 p0 HLG HLH HE2 HE3 oh Ue
 go_region_held3 (λw'=>w'.cell? ⟨D,0,none⟩=some (.string x)/\w'.cell? ⟨D,1,none⟩=some (.string q)/\w'.cell? ⟨D,2,none⟩=some (.string j)) (go_keep) (first | (go_at_call 42;refine(HAS.out _ _ (by first | exact Or.inl rfl | exact Or.inr rfl) (by first | exact(aaj _ _).drew.drew | assumption)).mono ?_;rintro e wn ⟨rfl,hbn,k0,k1,k2,y⟩;have kc0:=y.c0;have kc1:=y.c1;have kc2:=y.c2;have kf0:=y.fz 0;have kf1:=y.fz 1;have kf2:=y.fz 2) | (go_at_call 43;refine(aiH.out _ (by first | exact(aaj _ _).drew.drew | assumption)).mono ?_;rintro e wn ⟨rfl,hbn,k0,k1,k2,y⟩;have kc0:=y.c0;have kc1:=y.c1;have kc2:=y.c2;have kf0:=y.fz 0;have kf1:=y.fz 1;have kf2:=y.fz 2))
 all_goals
  have ju:Below w.heap.size w wn:=F.out.trans (hbn.mono F.out.size)
  go_wp2_with fail
  refine aaT (v:=.tuple #[.agg #[.bool (E H),.bool (E X),.int .i64 (n1:Nat)],.int .i64 0]) ?_ rfl ⟨by rw[Yh.out,hbu.out],((ju.setCell (p:=⟨w.heap.size+1,0,none⟩) (by simp) _).setCell (p:=⟨w.heap.size+1,1,none⟩) (by simp) _).setCell (p:=⟨w.heap.size+1,2,none⟩) (by simp) _⟩;refine aeO (aU rfl rfl (jt y.aY) Tryz.underlying52 rfl (by kernel_rfl)) ?_;rfl
/- An engine as it lies; what New's steps keep. -/
def dw(pl:ByteArray)(rv:Value)(gm hm:Nat)(hd:List UInt8)(lv:Value):Array Value:=([Value.string pl,rv,.map (some gm),.map (some hm)]++Rc.dP hd++[lv]).toArray
theorem fM{a b:Nat}{x y s f g}(i:w.heap[a]?=some (.cells x s f))(e:w.heap[b]?=some (.cells y t g))(h:s≠t:=by decide):a≠b:=by grind
theorem qS.sX{gm}(h:qS w gm G){f}(i:w.heap[x]?=some (.cells Z t f))(B:t≠125)(A:t≠119):∀b,b∈iT gm G->¬b∈[x]:=by
 intro b j e;simp only[BY,acC,aeH]at e;subst e;unfold iT at j;rcases BY.1 j with rfl | j
 ·obtain⟨es,E,e⟩:=h.map.block;rw[e]at i;cases i
 ·obtain⟨u,q,j⟩:=aa9.1 j;obtain⟨D,T,e,y⟩:=(h.cK u q).types j;rw[e]at i;simp at i;rcases y with rfl | rfl
  ·exact B i.2.1.symm
  ·exact A i.2.1.symm
theorem nC{cs}(i:W.heap[x]?=some (.cells Z 107 (0,0)))(j:Z.size=36)(t:cs.size=36):(W.setCells x 0 cs.toList).heap[x]?=some (.cells cs 107 (0,0)):=by
 obtain⟨e,q⟩:=dF x cs.toList 0 Z W i (by simp;omega);rw[e,abD (by simp;omega)];simp
theorem gS{cs:Array Value}(h:W.heap[x]?=some (.cells Z 107 (0,0)))(t:Z.size=36)(u:cs.size=36)(q:∀v,v∈cs.toList->v.oneCell'=true):(storeCells ⟨x,0,none⟩ cs.toList).run prog W=.ok () (W.setCells x 0 cs.toList):=by
 have i:∀j,j<cs.toList.length->(W.cell? ⟨x,0+0+j,none⟩).isSome=true:=by
  intro j e;rw[aaB _ _ _ _ _ _ h,acm,acR (by simp at e;omega)];rfl
 exact run_storeCells_cells (P:=prog) x 0 cs.toList 0 W i (λj e=>by simp[World.frozen?,h]) q
def I1(cs:Array Value)(b:Option Nat)(w':World):Prop:=match b with
 | some x=>(storeCells ⟨x,0,none⟩ cs.toList).run prog w'=.ok () (w'.setCells x 0 cs.toList)
 | none=>∀Z:Array Value,Z.size=36->(storeCells ⟨w'.heap.size,0,none⟩ cs.toList).run prog (w'.alloc (.cells Z 107))=.ok () ((w'.alloc (.cells Z 107)).setCells w'.heap.size 0 cs.toList)
/- strconv.Itoa. (tools/mkCJ.py writes what is laid.) -/
section
open Go.Shelf Go.RowKit Go.Sort Go.Lib
def TV:Ren:=⟨λ| 129=>242 | 171=>167 | 243=>217 | 246=>258 | 283=>279 | 284=>280 | 285=>281 | 286=>282 | 317=>291 | 318=>292 | 319=>293 | 320=>294 | 337=>297 | 338=>298 | n=>n,λ| 0=>0 | 2=>2 | 3=>3 | 4=>4 | 5=>5 | 9=>9 | 20=>20 | 37=>63 | 46=>246 | 51=>228 | 53=>285 | 171=>411 | 173=>413 | 212=>425 | 213=>426 | 232=>104 | 233=>430 | n=>n,λ| 17=>4 | 18=>5 | 19=>6 | n=>n⟩
theorem FJ:LaysM.n171 prog TV where
 mixed:=by kernel_rfl
 f129:=func242.trans (abu some (by kernel_rfl))
 f171:=func167.trans (abu some (by kernel_rfl))
 f243:=func217.trans (abu some (by kernel_rfl))
 f246:=func258.trans (abu some (by kernel_rfl))
 f283:=func279.trans (abu some (by kernel_rfl))
 f284:=func280.trans (abu some (by kernel_rfl))
 f285:=func281.trans (abu some (by kernel_rfl))
 f286:=func282.trans (abu some (by kernel_rfl))
 f317:=func291.trans (abu some (by kernel_rfl))
 f318:=func292.trans (abu some (by kernel_rfl))
 f319:=func293.trans (abu some (by kernel_rfl))
 f320:=func294.trans (abu some (by kernel_rfl))
 f337:=func297.trans (abu some (by kernel_rfl))
 f338:=func298.trans (abu some (by kernel_rfl))
 t0:=Tryz.underlying0
 a0:=Tryz.isAgg0
 z0:=Tryz.sizeOf0
 v0:=Tryz.zeroValue0
 t2:=Tryz.underlying2
 a2:=Tryz.isAgg2
 z2:=Tryz.sizeOf2
 v2:=Tryz.zeroValue2
 t3:=ade
 a3:=Tryz.isAgg3
 z3:=Tryz.sizeOf3
 v3:=Tryz.zeroValue3
 t4:=Tryz.underlying4
 a4:=Tryz.isAgg4
 z4:=Tryz.sizeOf4
 v4:=Tryz.zeroValue4
 t5:=adY
 a5:=Tryz.isAgg5
 z5:=Tryz.sizeOf5
 v5:=Tryz.zeroValue5
 t9:=abK
 a9:=Tryz.isAgg9
 z9:=Tryz.sizeOf9
 v9:=Tryz.zeroValue9
 t20:=Tryz.underlying20
 a20:=Tryz.isAgg20
 z20:=Tryz.sizeOf20
 v20:=Tryz.zeroValue20
 t37:=aci
 a37:=Tryz.isAgg63
 z37:=Tryz.sizeOf63
 v37:=Tryz.zeroValue63
 t46:=Tryz.underlying246
 a46:=Tryz.isAgg246
 z46:=Tryz.sizeOf246
 v46:=Tryz.zeroValue246
 t51:=Tryz.underlying228
 a51:=Tryz.isAgg228
 z51:=Tryz.sizeOf228
 v51:=Tryz.zeroValue228
 t53:=Tryz.underlying285
 a53:=Tryz.isAgg285
 z53:=Tryz.sizeOf285
 v53:=Tryz.zeroValue285
 t171:=Tryz.underlying411
 a171:=Tryz.isAgg411
 z171:=Tryz.sizeOf411
 v171:=Tryz.zeroValue411
 t173:=Tryz.underlying413
 a173:=Tryz.isAgg413
 z173:=Tryz.sizeOf413
 v173:=Tryz.zeroValue413
 t212:=Tryz.underlying425
 a212:=Tryz.isAgg425
 z212:=Tryz.sizeOf425
 v212:=Tryz.zeroValue425
 t213:=Tryz.underlying426
 a213:=Tryz.isAgg426
 z213:=Tryz.sizeOf426
 t232:=Tryz.underlying104
 a232:=Tryz.isAgg104
 z232:=Tryz.sizeOf104
 v232:=Tryz.zeroValue104
 t233:=Tryz.underlying430
 a233:=Tryz.isAgg430
 z233:=Tryz.sizeOf430
 v233:=Tryz.zeroValue430
 g17:=by kernel_rfl
 g18:=by kernel_rfl
 g19:=by kernel_rfl
 i0:=by kernel_rfl
 i2:=by kernel_rfl
 i3:=by kernel_rfl
 i4:=by kernel_rfl
 i5:=by kernel_rfl
 i9:=by kernel_rfl
 i20:=by kernel_rfl
 i37:=by kernel_rfl
 i46:=by kernel_rfl
 i51:=by kernel_rfl
 i53:=by kernel_rfl
 i171:=by kernel_rfl
 i173:=by kernel_rfl
 i212:=by kernel_rfl
 i232:=by kernel_rfl
 i233:=by kernel_rfl
 m17:=by kernel_rfl
 m18:=by kernel_rfl
 m19:=by kernel_rfl
theorem OB(n)(q:-9223372036854775808<=n)(j:n<=9223372036854775807)(w)(i:Lib.TabIs prog w "internal/strconv.uint64pow10" .u64 Lib.pow10Tab):
 Calls prog 167 #[.int .i64 n] w λe w'=>e=.returned (.string ⟨(Lib.itoa n).toArray⟩)/\∃k os,w'=grow (w.drewN k) os:=Any.strconv_Itoa FJ n q j w i
theorem nu(i:Nat)(w)(j:i<100:=by omega):
 Calls prog 167 #[.int .i64 i] w λe w'=>e=.returned (.string ⟨(Lib.decDigits i).toArray⟩)/\w'=w:=Any.strconv_Itoa_small FJ.ton171 i j w
end
variable{C:Array Value}{S:List Nat}{j m g:Nat}{o:Obj}{e:TypeId}{v' x:Value}{w:World}
section
variable {P:Program} (w:World)
theorem dC{q rest o a}{Q:Exit->Act->World->Prop}(F:o.guard=none)(s x t)
 (M:o.op=.call {callee:=.builtin .append,args:=#[s,x],argTypes:=#[t,t]})
 (base e i z size bytes)(J:P.underlying t=some (.slice e))(O:P.info? e=some i)(H:i.zero=some z)
 (fo:i.size=size)(A:i.bytes=bytes)(E:z.cells.size=size)(cp:0<size)
 (v n xs)(hs:a.eval s=v)(aE:w.ownsRow base e size v n xs)
 (ad m c news)(I:a.eval x=.slice (some ad) m c)(N:news.length=m*size)(eM:∀j u,news[j]?=some u->w.cell? (ad.add j)=some u)(h1:∀u∈news,u.oneCell'=true)
 (hm:0<m)(D:n+m<=maxLen)(eU:(n+m)*bytes<=140737488355328)(gQ:base<=w.heap.size)
 (h:∀g cap w',w'.ownsRow base e size (.slice (some ⟨g,0,none⟩) (n+m) cap) (n+m) (xs++news)->w.grownBy w' v.ownBlock->aZ w v (.slice (some ⟨g,0,none⟩) (n+m) cap)->(∀(b:Nat),v.ownBlock=some b->(∃y,w'.heap[b]?=some (.cells y e (0,0)))/\∀j,j<n*size->w'.cell? ⟨b,j,none⟩=w.cell? ⟨b,j,none⟩)->wpList P q Q rest (a.put o.dst (.slice (some ⟨g,0,none⟩) (n+m) cap)) w'):wpList P q Q (o::rest) a w:=
 wpList_plain F λ_ U=>pM w s x t M base e i z size bytes J O H fo A E cp v n xs hs aE ad m c news I N eM h1 hm D eU gQ λg cap w' h2 Z Y V=>U _ _ (h g cap w' h2 Z Y V)
end
structure fh where
 d:Option Addr
 n:Nat
 c:Nat
 m:ByteArray
def fh.v(x:fh):Value:=.slice x.d x.n x.c
def fh.k(x:fh):Value:=.string x.m
def NB(w:World)(p:fh):Prop:=p.n<=p.c/\p.n<=1000000000/\(∀k,k<p.n->∃g cur,p.d=some ⟨g,0,none⟩/\w.heap[g]?=some (.cells cur 9 (0,0))/\cur[k]?=some (.string p.m))/\∀q,p.v.ownBlock=some q->q<w.heap.size
def NC(w:World)(p:fh):Prop:=p.n<=p.c/\p.n<=1000000000/\(∀k,k<p.n->∃g cur,p.d=some ⟨g,0,none⟩/\w.heap[g]?=some (.cells cur 48 (0,0))/\cur[k*2]?=some (.string p.m)/\cur[k*2+1]?=some (.slice none 0 0))/\∀q,p.v.ownBlock=some q->q<w.heap.size
theorem NB.kb{w'}{p:fh}(h:NB w p)(j:Kb S w w')(x:∀b,b∈S->p.v.ownBlock=some b->∀i fz,w.heap[b]?=some (.cells i 9 fz)->False):NB w' p:=by
 refine⟨h.1,h.2.1,λk A=>?_,λq u=>aa7 (h.2.2.2 q u) j.size⟩;obtain⟨g,i,e,t,y⟩:=h.2.2.1 k A;exact⟨g,i,e,j.heap t (λhm=>x g hm (by unfold fh.v;rw[e];rfl) _ _ t),y⟩
theorem NC.kb{w'}{p:fh}(h:NC w p)(j:Kb S w w')(x:∀b,b∈S->p.v.ownBlock=some b->∀i fz,w.heap[b]?=some (.cells i 48 fz)->False):NC w' p:=by
 refine⟨h.1,h.2.1,λk A=>?_,λq u=>aa7 (h.2.2.2 q u) j.size⟩;obtain⟨g,i,e,t,y⟩:=h.2.2.1 k A;exact⟨g,i,e,j.heap t (λhm=>x g hm (by unfold fh.v;rw[e];rfl) _ _ t),y⟩
structure uA(w:World)(B wb:Nat)(e0 e1 e2 e3 e4 fv av bV bW:Value)(n:Nat)(fa aa BU rG:List Value):Prop where
 aY:w.heap[wb]?=some (.cells #[e0,e1,e2,e3,e4,fv,av,bV,bW,.int .i64 n] 77 (0,0))
 fl:w.ownsRow B 37 1 fv fa.length fa
 al:w.ownsRow B 46 1 av aa.length aa
 fm:w.ownsRow B 9 1 bV BU.length BU
 am:w.ownsRow B 9 1 bW rG.length rG
 two:∀q,bV.ownBlock=some q->bW.ownBlock≠some q
 ge:B<=wb
section
variable {w w':World} {B wb:Nat} {e0 e1 e2 e3 e4 fv av bV bW:Value} {n:Nat} {fa aa BU rG:List Value}
theorem uA.cells(h:uA w B wb e0 e1 e2 e3 e4 fv av bV bW n fa aa BU rG):w.cell? ⟨wb,5,none⟩=some fv/\w.cell? ⟨wb,6,none⟩=some av/\w.cell? ⟨wb,7,none⟩=some bV/\w.cell? ⟨wb,8,none⟩=some bW/\w.cell? ⟨wb,9,none⟩=some (.int .i64 n)/\(∀j,w.frozen? ⟨wb,j,none⟩=false)/\wb<w.heap.size:=by
 refine⟨?_, ?_, ?_, ?_, ?_,aJ h.aY,lt_of_heap h.aY⟩<;>(rw[aq h.aY];rfl)
theorem uA.kb(h:uA w B wb e0 e1 e2 e3 e4 fv av bV bW n fa aa BU rG)(q:Kb S w w')
 (t:∀b,b∈S->b≠wb/\∀i T fz,w.heap[b]?=some (.cells i T fz)->T≠37/\T≠46/\(T=9->bV.ownBlock≠some b/\bW.ownBlock≠some b)):uA w' B wb e0 e1 e2 e3 e4 fv av bV bW n fa aa BU rG:=by
 refine⟨q.heap h.aY (λhm=>(t wb hm).1 rfl), ?_, ?_, ?_, ?_,h.two,h.ge⟩
 ·exact q.aR h.fl (λb i fz j e=>((t b j).2 _ _ _ e).1 rfl)
 ·exact q.aR h.al (λb i fz j e=>((t b j).2 _ _ _ e).2.1 rfl)
 ·refine q.row h.fm (λb j hm=>?_);obtain⟨i,fz,e⟩:=au h.fm b j;grind
 ·refine q.row h.am (λb j hm=>?_);obtain⟨i,fz,e⟩:=au h.am b j;grind
theorem uA.below(h:uA w B wb e0 e1 e2 e3 e4 fv av bV bW n fa aa BU rG)(e:Below w.heap.size w w'):uA w' B wb e0 e1 e2 e3 e4 fv av bV bW n fa aa BU rG:=⟨(e.block _ (lt_of_heap h.aY)).trans h.aY,ae h.fl e,ae h.al e,ae h.fm e,ae h.am e,h.two,h.ge⟩
theorem uA.count(h:uA w B wb e0 e1 e2 e3 e4 fv av bV bW n fa aa BU rG)(k:Nat):uA (w.setCell ⟨wb,9,none⟩ (.int .i64 k)) B wb e0 e1 e2 e3 e4 fv av bV bW k fa aa BU rG:=by
 have q:=Kb.setCell w ⟨wb,9,none⟩ (.int .i64 k);have j:∀{T:TypeId},T≠77->∀b i fz,b∈[wb]->w.heap[b]?=some (.cells i T fz)->False:=λ{T} u b i fz t e=>by
  simp only[aae]at t;subst t;rw[h.aY]at e;simp only[AT,aa1]at e;exact u e.2.1.symm
 refine⟨?_,q.aR h.fl (j (by decide)),q.aR h.al (j (by decide)),q.aR h.fm (j (by decide)),q.aR h.am (j (by decide)),h.two,h.ge⟩;rw[aC _ h.aY];rfl
theorem jz{q}{v:Value}(x:(w.alloc o).grownBy q v.ownBlock):Kb (wb::v.ownBlock.toList) w (q.setCell ⟨wb,j,none⟩ v'):=by
 have u:Kb (wb::v.ownBlock.toList) w (w.alloc o):=(Kb.refl _ w).alloc o;have t:Kb (wb::v.ownBlock.toList) w q:=u.trans ((Kb.eS x).mono (λi e _=>adr _ e));exact t.trans ((Kb.setCell q ⟨wb,j,none⟩ v').mono (λi e _=>by simp only[aae]at e;simp[e]))
theorem je{x v}{b:Nat}{i y t fz}(E:(w.alloc o).grownBy x v.ownBlock)(D:w.ownsRow B e 1 v m y)(j:w.heap[b]?=some (.cells i t fz))(A:t≠e:=by decide):x.heap[b]?=some (.cells i t fz):=by
 have F:Below w.heap.size w (w.alloc o):=aM;have u:=(F.block _ (lt_of_heap j)).trans j;rw[E.block _ (lt_of_heap u) ?_]
 ·exact u
 ·intro I;obtain⟨J,H,q⟩:=au D _ I.symm;rw[j]at q;simp only[AT,aa1]at q;exact A q.2.1
theorem dG{v T t}(D:w.heap[wb]?=some (.cells C 77 (0,0)))(u:w.ownsRow B e 1 v m t)(E:T≠77:=by decide)(y:T≠e:=by decide):∀b i fz,b∈wb::v.ownBlock.toList->w.heap[b]?=some (.cells i T fz)->False:=by
 intro b i fz j x;rcases BY.1 j with rfl | j
 ·grind
 ·obtain⟨F,A,q⟩:=au u b (by simpa using j);rw[x]at q;simp only[AT,aa1]at q;exact y q.2.1
theorem nM{i:World}{u t}(y:i.heap[wb]?=some (.cells C 77 (0,0)))(A:i.ownsRow B e 1 v' m t)(D:e≠77:=by decide):(i.setCell ⟨wb,j,none⟩ u).ownsRow B e 1 v' m t:=by
 refine(Kb.setCell i ⟨wb,j,none⟩ u).aR A (λb E fz x q=>?_);simp only[aae]at x;subst x;rw[y]at q;simp only[AT,aa1]at q;exact D q.2.1.symm
theorem uA.aea{e}(h:uA w B wb e0 e1 e2 e3 e4 fv av bV bW n fa aa BU rG)(t:(w.alloc o).grownBy e av.ownBlock)(u:e.ownsRow B 46 1 v' m (aa++[x]))(hm:m=aa.length+1):
 e.heap[wb]?=some (.cells #[e0,e1,e2,e3,e4,fv,av,bV,bW,.int .i64 n] 77 (0,0))/\uA (e.setCell ⟨wb,6,none⟩ v') B wb e0 e1 e2 e3 e4 fv v' bV bW n fa (aa++[x]) BU rG:=by
 have i:=je t h.al h.aY;have q:=jz (wb:=wb) (v':=v') (j:=6) t;refine⟨i, ?_, ?_, ?_, ?_, ?_,h.two,h.ge⟩
 ·rw[aC _ i];rfl
 ·exact q.aR h.fl (dG h.aY h.al)
 ·rw[If,ab6,<-hm];exact nM i u
 ·exact q.aR h.fm (dG h.aY h.al)
 ·exact q.aR h.am (dG h.aY h.al)
theorem uA.ado{e}(h:uA w B wb e0 e1 e2 e3 e4 fv av bV bW n fa aa BU rG)(t:(w.alloc o).grownBy e fv.ownBlock)(u:e.ownsRow B 37 1 v' m (fa++[x]))(hm:m=fa.length+1):
 e.heap[wb]?=some (.cells #[e0,e1,e2,e3,e4,fv,av,bV,bW,.int .i64 n] 77 (0,0))/\uA (e.setCell ⟨wb,5,none⟩ v') B wb e0 e1 e2 e3 e4 v' av bV bW n (fa++[x]) aa BU rG:=by
 have i:=je t h.fl h.aY;have q:=jz (wb:=wb) (v':=v') (j:=5) t;refine⟨i, ?_, ?_, ?_, ?_, ?_,h.two,h.ge⟩
 ·rw[aC _ i];rfl
 ·rw[If,ab6,<-hm];exact nM i u
 ·exact q.aR h.al (dG h.aY h.fl)
 ·exact q.aR h.fm (dG h.aY h.fl)
 ·exact q.aR h.am (dG h.aY h.fl)
theorem J6{v u k xs j}(t:w.heap[wb]?=some (.cells C 77 (0,0)))(x:w.ownsRow B 9 1 v m xs)(hs:w.ownsRow B 9 1 u k j)(A:∀q,v.ownBlock=some q->u.ownBlock≠some q):∀b,v.ownBlock=some b->¬b∈wb::u.ownBlock.toList:=by
 intro b e hm;rcases BY.1 hm with rfl | hm
 ·obtain⟨D,y,i⟩:=au x b e;rw[t]at i;simp at i
 ·exact A b e (by simpa using hm)
theorem uA.aaJ{i}(h:uA w B wb e0 e1 e2 e3 e4 fv av bV bW n fa aa BU rG)(D:(w.alloc o).grownBy i bW.ownBlock)(E:i.ownsRow B 9 1 v' m (rG++[x]))(hm:m=rG.length+1)(F:aZ (w.alloc o) bW v'):
 i.heap[wb]?=some (.cells #[e0,e1,e2,e3,e4,fv,av,bV,bW,.int .i64 n] 77 (0,0))/\uA (i.setCell ⟨wb,8,none⟩ v') B wb e0 e1 e2 e3 e4 fv av bV v' n fa aa BU (rG++[x]):=by
 have t:=je D h.am h.aY;have u:=jz (wb:=wb) (v':=v') (j:=8) D;refine⟨t, ?_, ?_, ?_, ?_, ?_, ?_,h.ge⟩
 ·rw[aC _ t];rfl
 ·exact u.aR h.fl (dG h.aY h.am)
 ·exact u.aR h.al (dG h.aY h.am)
 ·exact u.row h.fm (J6 h.aY h.fm h.am h.two)
 ·rw[If,ab6,<-hm];exact nM t E
 ·intro q A e;rcases F q e with y | y
  ·exact h.two q A y
  ·obtain⟨J,I,H⟩:=au h.fm q A;have:=lt_of_heap H;simp at y;omega
theorem uA.aa4{t}(h:uA w B wb e0 e1 e2 e3 e4 fv av bV bW n fa aa BU rG)(D:(w.alloc o).grownBy t bV.ownBlock)(E:t.ownsRow B 9 1 v' m (BU++[x]))(hm:m=BU.length+1)(F:aZ (w.alloc o) bV v'):
 t.heap[wb]?=some (.cells #[e0,e1,e2,e3,e4,fv,av,bV,bW,.int .i64 n] 77 (0,0))/\uA (t.setCell ⟨wb,7,none⟩ v') B wb e0 e1 e2 e3 e4 fv av v' bW n fa aa (BU++[x]) rG:=by
 have u:=je D h.fm h.aY;have y:=jz (wb:=wb) (v':=v') (j:=7) D;have J:∀q,bW.ownBlock=some q->bV.ownBlock≠some q:=λq i e=>h.two q e i;refine⟨u, ?_, ?_, ?_, ?_, ?_, ?_,h.ge⟩
 ·rw[aC _ u];rfl
 ·exact y.aR h.fl (dG h.aY h.fm)
 ·exact y.aR h.al (dG h.aY h.fm)
 ·rw[If,ab6,<-hm];exact nM u E
 ·exact y.row h.am (J6 h.aY h.am h.fm J)
 ·intro q e i;rcases F q e with A | A
  ·exact h.two q A i
  ·obtain⟨M,I,H⟩:=au h.am q i;have:=lt_of_heap H;simp at A;omega
end
structure Bk(w:World)(B wb:Nat)(e0 e1 e2 e3 e4 fv av bV bW:Value)(n:Nat)(FP AP:List fh):Prop where
 rows:uA w B wb e0 e1 e2 e3 e4 fv av bV bW n (FP.map fh.v) (AP.map fh.v) (FP.map fh.k) (AP.map fh.k)
 fs:∀p,p∈FP->NC w p
 ns:∀p,p∈AP->NB w p
 off:∀p,p∈AP->∀q,p.v.ownBlock=some q->bV.ownBlock≠some q/\bW.ownBlock≠some q
section
variable {w w':World} {B wb:Nat} {e0 e1 e2 e3 e4 fv av bV bW:Value} {n:Nat} {FP AP:List fh}
theorem Bk.below(h:Bk w B wb e0 e1 e2 e3 e4 fv av bV bW n FP AP)(e:Below w.heap.size w w'):Bk w' B wb e0 e1 e2 e3 e4 fv av bV bW n FP AP:=⟨h.rows.below e,λp i=>(h.fs p i).kb (Kb.bD e []) (λb e=>by cases e),λp i=>(h.ns p i).kb (Kb.bD e []) (λb e=>by cases e),h.off⟩
theorem Bk.kb(h:Bk w B wb e0 e1 e2 e3 e4 fv av bV bW n FP AP)(q:Kb S w w')
 (u:∀b,b∈S->b≠wb/\∀i T fz,w.heap[b]?=some (.cells i T fz)->T≠37/\T≠46/\(T=48->∀p,p∈FP->p.v.ownBlock≠some b)/\(T=9->bV.ownBlock≠some b/\bW.ownBlock≠some b/\∀p,p∈AP->p.v.ownBlock≠some b)):Bk w' B wb e0 e1 e2 e3 e4 fv av bV bW n FP AP:=by
 refine⟨h.rows.kb q (λb t=>⟨(u b t).1,λi T fz e=>?_⟩),λp j=>(h.fs p j).kb q (λb t e i fz x=>?_),λp j=>(h.ns p j).kb q (λb t e i fz x=>?_),h.off⟩
 ·grind
 ·grind
 ·grind
end
/- axiomlaw: Book.names: its steps. -/
theorem DJ{B s n c k xs v}(h:w.ownsRow B e s (.slice (some ⟨g,0,none⟩) n c) n xs):(w.setCell ⟨g,k,none⟩ v).ownsRow B e s (.slice (some ⟨g,0,none⟩) n c) n (xs.set k v):=by
 obtain⟨D,i⟩:=h;refine⟨by rw[aeS];exact D, ?_⟩;rcases i with⟨i,_⟩ | ⟨E,cap,j,e1,A,y,x,u,t,q⟩
 ·cases i
 ·simp only[abi,AT,aco]at e1;obtain⟨⟨rfl,_⟩,_,rfl⟩:=e1;refine .inr ⟨g,c,j.setIfInBounds k v,rfl,A,aC _ y k v,x,u,by rw[Array.size_setIfInBounds];exact t, ?_⟩;rw[<-q,ac2,List.take_set]
theorem Kb.only{v}:Kb [g] w (w.setCell ⟨g,j,none⟩ v):=Kb.setCell w ⟨g,j,none⟩ v
structure Nm(w W:World)(B wb:Nat)(e0 e1 e2 e3 e4 fv av bV bW:Value)(n:Nat)(FP AP:List fh)(m:ByteArray)(l0:Value)(d:Option Addr)(k c:Nat)(nO ep:Value)(X:List fh)(aa rG:List Value):Prop where
 rows:uA W B wb e0 e1 e2 e3 e4 fv nO bV ep n (FP.map fh.v) aa (FP.map fh.k) rG
 fs:∀p,p∈FP->NC W p
 ns:∀p,p∈AP++X->NB W p
 off:∀p,p∈AP++X->∀q,p.v.ownBlock=some q->bV.ownBlock≠some q/\ep.ownBlock≠some q
 row:W.ownsRow B 9 1 (.slice d k c) k (List.replicate k (.string m))
 kb:Kb (wb::(av.ownBlock.toList++bW.ownBlock.toList++l0.ownBlock.toList)) w W
 fa:aZ w av nO
 fk:aZ w bW ep
 xb:∀p,p∈X->∀q,p.v.ownBlock=some q->l0.ownBlock=some q\/w.heap.size<=q
 xn:∀p,p∈X->p.n<=k
 lb:∀q,(Value.slice d k c).ownBlock=some q->(l0.ownBlock=some q\/w.heap.size<=q)/\bV.ownBlock≠some q/\ep.ownBlock≠some q/\∀p,p∈AP->p.v.ownBlock≠some q
section
variable {w W:World} {B wb:Nat} {e0 e1 e2 e3 e4 fv av bV bW:Value} {n:Nat} {FP AP:List fh} {m:ByteArray} {l0:Value} {d:Option Addr} {k c:Nat} {nO ep:Value} {X:List fh} {aa rG:List Value}
theorem Nm.a{y t}(h:Nm w W B wb e0 e1 e2 e3 e4 fv av bV bW n FP AP m l0 d k c nO ep X aa rG)(F:(W.alloc o).grownBy y nO.ownBlock)(H:y.ownsRow B 46 1 t j (aa++[x]))(I:j=aa.length+1)(J:aZ (W.alloc o) nO t):
 y.heap[wb]?=some (.cells #[e0,e1,e2,e3,e4,fv,nO,bV,ep,.int .i64 n] 77 (0,0))/\Nm w (y.setCell ⟨wb,6,none⟩ t) B wb e0 e1 e2 e3 e4 fv av bV bW n FP AP m l0 d k c t ep X (aa++[x]) rG:=by
 obtain⟨N,M⟩:=h.rows.aea F H I;have u:=jz (wb:=wb) (v':=t) (j:=6) F;refine⟨N,M,λp A=>(h.fs p A).kb u (λb E _ q fz=>dG h.rows.aY h.rows.al (by decide) (by decide) b q fz E),λp A=>(h.ns p A).kb u (λb E _ q fz=>dG h.rows.aY h.rows.al (by decide) (by decide) b q fz E),h.off,u.aR h.row (dG h.rows.aY h.rows.al), ?_, ?_,h.fk,h.xb,h.xn,h.lb⟩
 ·refine h.kb.trans' u (λi D O=>?_);rcases BY.1 D with rfl | D
  ·simp
  ·rcases h.fa i (by simpa using D)with e | e
   ·simp[e]
   ·omega
 ·exact h.fa.trans J (by have:=h.kb.size;simp;omega)
theorem Nm.b{H D}(h:Nm w W B wb e0 e1 e2 e3 e4 fv av bV bW n FP AP m l0 d k c nO ep X aa rG)(N:(W.alloc o).grownBy H ep.ownBlock)(O:H.ownsRow B 9 1 D j (rG++[x]))(V:j=rG.length+1)(J:aZ (W.alloc o) ep D):
 H.heap[wb]?=some (.cells #[e0,e1,e2,e3,e4,fv,nO,bV,ep,.int .i64 n] 77 (0,0))/\Nm w (H.setCell ⟨wb,8,none⟩ D) B wb e0 e1 e2 e3 e4 fv av bV bW n FP AP m l0 d k c nO D X aa (rG++[x]):=by
 obtain⟨h1,Z⟩:=h.rows.aaJ N O V J;have F:=jz (wb:=wb) (v':=D) (j:=8) N;have Im:∀q,q<W.heap.size->ep.ownBlock≠some q->D.ownBlock≠some q:=λq A U e=>by
  rcases J q e with e | e
  ·exact U e
  ·simp at e;omega
 have M:∀b,b∈wb::ep.ownBlock.toList->b=wb\/ep.ownBlock=some b:=λb u=>by
  rcases BY.1 u with e | e
  ·exact .inl e
  ·exact .inr (by simpa using e)
 have E:∀{t:Array Value} {fz:Nat×Nat},W.heap[wb]?=some (.cells t 9 fz)->False:=λ{t fz} e=>by
  rw[h.rows.aY]at e;simp at e
 refine⟨h1,Z,λp y=>(h.fs p y).kb F (λb u _ t fz=>dG h.rows.aY h.rows.am (by decide) (by decide) b t fz u),λp y=>(h.ns p y).kb F (λb u e t fz Y=>?_),λp y q A=>⟨(h.off p y q A).1,Im q ((h.ns p y).2.2.2 q A) (h.off p y q A).2⟩,F.row h.row (λb u hm=>?_), ?_,h.fa, ?_,h.xb,h.xn,λq A=>?_⟩
 ·rcases M b u with rfl | u
  ·exact E Y
  ·exact(h.off p y b e).2 u
 ·rcases M b hm with rfl | hm
  ·obtain⟨t,fz,e⟩:=au h.row _ u;exact E e
  ·exact(h.lb b u).2.2.1 hm
 ·refine h.kb.trans' F (λi I aL=>?_);rcases M i I with rfl | I
  ·simp
  ·rcases h.fk i I with e | e
   ·simp[e]
   ·omega
 ·exact h.fk.trans J (by have:=h.kb.size;simp;omega)
 ·obtain⟨l1,l2,l3,l4⟩:=h.lb q A;obtain⟨t,fz,e⟩:=au h.row _ A;grind
theorem Nm.more{E cap}(h:Nm w W B wb e0 e1 e2 e3 e4 fv av bV bW n FP AP m l0 d k c nO ep X aa rG)(KH:k<=1000000000)(hg:(W.alloc o).grownBy E (Value.slice d k c).ownBlock)(hr:E.ownsRow B 9 1 (.slice (some ⟨g,0,none⟩) (k+1) cap) (k+1) (List.replicate k (.string m)++[.string m]))(hf:aZ (W.alloc o) (.slice d k c) (.slice (some ⟨g,0,none⟩) (k+1) cap))
 (hc:∀b,(Value.slice d k c).ownBlock=some b->(∃t,E.heap[b]?=some (.cells t 9 (0,0)))/\∀j,j<k*1->E.cell? ⟨b,j,none⟩=(W.alloc o).cell? ⟨b,j,none⟩):Nm w E B wb e0 e1 e2 e3 e4 fv av bV bW n FP AP m l0 (some ⟨g,0,none⟩) (k+1) cap nO ep (X++[⟨d,k,c,m⟩]) aa rG:=by
 have k0:Kb (Value.slice d k c).ownBlock.toList W (W.alloc o):=(Kb.refl _ W).alloc o;have I:Kb (Value.slice d k c).ownBlock.toList W E:=k0.trans (Kb.eS hg);have H:∀b,b∈(Value.slice d k c).ownBlock.toList->(Value.slice d k c).ownBlock=some b/\∃t,W.heap[b]?=some (.cells t 9 (0,0)):=λb y=>by
  have y:(Value.slice d k c).ownBlock=some b:=by simpa using y
  refine⟨y, ?_⟩;rcases h.row.2 with⟨e,_⟩ | ⟨O,c9,t,e,_,J,_⟩
  ·rw[e]at y;cases y
  ·rw[e]at y;cases y;exact⟨t,J⟩
 have wF:∀{T:TypeId},T≠9->∀b t fz,b∈(Value.slice d k c).ownBlock.toList->W.heap[b]?=some (.cells t T fz)->False:=λ{T} hT b t fz y e=>by
  obtain⟨_,U,e'⟩:=H b y;rw[e]at e';simp only[AT,aa1]at e';exact hT e'.2.1
 have dM:∀b j,(Value.slice d k c).ownBlock=some b->j<k->E.cell? ⟨b,j,none⟩=W.cell? ⟨b,j,none⟩:=λb j y hj=>by
  have D:=(hc b y).2 j (by omega);obtain⟨_,t,e⟩:=H b (by simp[y]);rw[D];exact adz (aay _ _ _ (lt_of_heap e))
 have hold:∀p:fh,NB W p->p.n<=k->NB E p:=λp D V=>by
  refine⟨D.1,D.2.1,λi F=>?_,λq A=>aa7 (D.2.2.2 q A) I.size⟩;obtain⟨b,t,e,h3,J⟩:=D.2.2.1 i F;by_cases y:(Value.slice d k c).ownBlock=some b
  ·obtain⟨U,M⟩:=(hc b y).1;refine⟨b,U,e,M, ?_⟩;rw[<-aq M,dM b i y (by omega),aq h3];exact J
  ·exact⟨b,t,e,I.heap h3 (λhm=>y (by simpa using hm)),J⟩
 have hx:NB W ⟨d,k,c,m⟩:=by
  refine⟨?_,KH,λi F=>?_,λq A=>?_⟩
  ·rcases h.row.2 with⟨e,e2⟩ | ⟨O,c9,t,e,_,_,M,_⟩
   ·grind
   ·grind
  ·have F:i<k:=F;obtain⟨O,e,_,_,J⟩:=aA h.row;have M:=J i (.string m) (by simp[F]);obtain⟨_,t,N⟩:=H O (by simp[e,Value.ownBlock]);refine⟨O,t,e,N, ?_⟩;rw[<-aq N];exact M
  ·obtain⟨_,t,N⟩:=H q (by have A:(Value.slice d k c).ownBlock=some q:=A;simp[A]);exact lt_of_heap N
 refine⟨h.rows.kb I (λb y=>?_),λp x=>(h.fs p x).kb I (λb y _ t fz=>wF (by decide) b t fz y),λp x=>?_,λp x q A=>?_, ?_, ?_,h.fa,h.fk,λp x q A=>?_,λp x=>?_,λq A=>?_⟩
 ·obtain⟨D,t,V⟩:=H b y;refine⟨fM V h.rows.aY,λU T fz e=>?_⟩;rw[V]at e;simp only[AT,aa1]at e;obtain⟨_,rfl,_⟩:=e;exact⟨by decide,by decide,λ_=>⟨(h.lb b D).2.1,(h.lb b D).2.2.1⟩⟩
 ·rw[<-aa8]at x;rcases ZD.1 x with x | x
  ·rcases ZD.1 x with Xp | Xp
   ·exact(h.ns p x).kb I (λb y e _ _ _=>(h.lb b (H b y).1).2.2.2 p Xp e)
   ·exact hold p (h.ns p x) (h.xn p Xp)
  ·grind
 ·rw[<-aa8]at x;rcases ZD.1 x with x | x
  ·exact h.off p x q A
  ·simp only[aae]at x;subst x;exact⟨(h.lb q A).2.1,(h.lb q A).2.2.1⟩
 ·rw[List.replicate_succ'];exact hr
 ·refine h.kb.trans' I (λi F Z=>?_);rcases(h.lb i (H i F).1).1 with e | e
  ·simp[e]
  ·omega
 ·rcases ZD.1 x with x | x
  ·exact h.xb p x q A
  ·simp only[aae]at x;subst x;exact(h.lb q A).1
 ·rcases ZD.1 x with x | x
  ·exact Nat.le_succ_of_le (h.xn p x)
  ·grind
 ·rcases hf q A with e | e
  ·exact h.lb q e
  ·have hs:=h.kb.size;simp at e;have Z:∀{u:Value} {j:Nat} {ys:List Value},W.ownsRow B 9 1 u j ys->u.ownBlock≠some q:=λ{u j ys} hu Y=>by
    obtain⟨t,fz,e8⟩:=au hu _ Y;have:=lt_of_heap e8;omega
   refine⟨.inr (by omega),Z h.rows.fm,Z h.rows.am,λp x Y=>?_⟩;have:=(h.ns p (acH _ x)).2.2.2 q Y;omega
end
/- axiomkeep.ahead. -/
def gL:List ByteArray->List ByteArray->Bool
 | x::a,y::b=>if x=y then gL a b else Tb.slt x y
 | _,_=>false
theorem Cq:∀{a b:List ByteArray} {k:Nat} (q:k<a.length) (j:k<b.length),a.take k=b.take k->a[k]≠b[k]->gL a b=Tb.slt a[k] b[k]
 | x::a,y::b,0,_,_,_,i=>by
  have t:x≠y:=i;unfold gL;rw[aaD t];rfl
 | x::a,y::b,k+1,q,j,e,i=>by
  simp only[adK,aeP]at e;unfold gL;rw[aa3 e.1];exact Cq (a:=a) (b:=b) (k:=k) (by simpa using q) (by simpa using j) e.2 i
theorem Ce:∀{a b:List ByteArray} {k:Nat},a.take k=b.take k->(a.length<=k\/b.length<=k)->gL a b=false
 | [],_,_,_,_=>by simp[gL]
 | _::_,[],_,_,_=>by simp[gL]
 | x::a,y::b,0,_,h=>by simp at h
 | x::a,y::b,k+1,e,h=>by
  simp only[adK,aeP]at e;unfold gL;rw[aa3 e.1];exact Ce (a:=a) (b:=b) (k:=k) e.2 (by simpa using h)
theorem BD{a b:List ByteArray}{k:Nat}(j:k<a.length)(i:k<b.length)(h:a.take k=b.take k)(e:a[k]=b[k]):a.take (k+1)=b.take (k+1):=by
 rw[aaZ,aaZ,AS j,AS i,h,e]
variable{a:List ByteArray}{l:List FI}{n c k fc:Nat}{fd:Option Addr}{v:Value}{w w':World}
theorem BM(w t v b F I)(A:w.ownsRow 0 9 1 F b.length (strCells (b.map Prod.fst)))(B:w.ownsRow 0 9 1 I b.length (strCells (b.map Prod.snd))):
 Calls prog 213 #[.string t,.bool v,F,I] w λe w'=>e=.returned (.tuple #[.string (if v then En.val b t else t),.bool (!v||b.any λp=>decide (p.1=t))])/\w'=w:=by
 obtain⟨vd,vc,rfl⟩:=ah A;obtain⟨nd,nc,rfl⟩:=ah B;cases v with
 | false=>
  go_enter func213,ntmps213
  go_wp2_with fail
  go_ret2
  exact⟨rfl,rfl⟩
 | true=>
  have HV:=aj A;have HN:=aj B;have Mb:=aH A;have Sn:=aH B;simp only[if_true,Bool.not_true,aeT];generalize N:En.val b t=X;generalize M:(b.any λp=>decide (p.1=t))=Y;clear A B
  go_enter func213,ntmps213
  go_wp2_with fail
  go_loopw [10] (λi wr=>∃k:Nat,k<=b.length/\i=.int .i64 k/\Hid (En.val (b.drop k) t=X/\((b.drop k).any λp=>decide (p.1=t))=Y)/\wr=w) (λi _=>b.length-(intOf i).toNat)
  ·exact⟨0,IS _,rfl,⟨N,M⟩,rfl⟩
  ·
   obtain⟨k,hk,rfl,H,rfl⟩:=hrel;clear N M;by_cases D:k<b.length
   ·have gD:decide ((k:Int)<b.length)=true:=aap (by omega);obtain⟨ga,rfl,W,Z,O⟩:=aA HV.out;obtain⟨gb,rfl,uh,R5,V⟩:=aA HN.out;have c1:=O k (.string (b[k]).1) (by simp[strCells,D]);have c2:=V k (.string (b[k]).2) (by simp[strCells,D]);have i1:(0:Int)<=(k:Int):=by omega
    have i2:(k:Int)<b.length:=by omega
    rw[aan D]at H;have U:Hid ((b[k].1=t->X=b[k].2/\Y=true)/\(¬b[k].1=t->En.val (b.drop (k+1)) t=X/\((b.drop (k+1)).any λp=>decide (p.1=t))=Y)):=by
     obtain⟨q,j⟩:=H.out;unfold En.val at q;rw[aeJ]at j;refine⟨λe=>?_,λe=>?_⟩
     ·rw[aa3 e]at q;rw[aap e,Bool.true_or]at j;exact⟨q.symm,j.symm⟩
     ·rw[aaD e]at q;rw[aab e,aeT]at j;exact⟨q,j⟩
    clear O V H;generalize (b[k]).1=x at*;generalize (b[k]).2=y at*;by_cases u:x=t
    ·have J:(x.toList==t.toList)=true:=by rw[u];simp
     obtain⟨rfl,rfl⟩:=U.out.1 u;subst u;clear J
     go_wp2_with fail
     all_goals
      (go_ret2
       exact⟨rfl,rfl⟩)
    ·have J:(x.toList==t.toList)=false:=by
      rw[ab1];exact λe=>u (Tb.toList_inj e)
     have E:=U.out.2 u
     go_wp2_with fail
     all_goals
      (go_roundw
       ·exact⟨k+1,D,by go_num,E,trivial⟩
       ·(simp[intOf];omega))
   ·have gD:decide ((k:Int)<b.length)=false:=aab (by omega);have Hj:k=b.length:=by omega
    have E:Hid (X=⟨#[]⟩/\Y=false):=by
     obtain⟨q,j⟩:=H.out;rw[Hj,List.drop_length]at q j;exact⟨q.symm,j.symm⟩
    obtain⟨rfl,rfl⟩:=E.out;clear H
    go_wp2_with fail
    go_ret2
    exact⟨rfl,rfl⟩
theorem boxes{p q av bv}:Hid (∀W,Below ((w.alloc (.cells #[.string p,av] 48)).alloc (.cells #[.string q,bv] 48)).heap.size ((w.alloc (.cells #[.string p,av] 48)).alloc (.cells #[.string q,bv] 48)) W->Below w.heap.size w W/\W.cell? ⟨w.heap.size,0,none⟩=some (.string p)/\W.cell? ⟨w.heap.size,1,none⟩=some av/\W.cell? ⟨w.heap.size+1,0,none⟩=some (.string q)/\W.cell? ⟨w.heap.size+1,1,none⟩=some bv):=by
 intro W h;have e:Below w.heap.size w ((w.alloc (.cells #[.string p,av] 48)).alloc (.cells #[.string q,bv] 48)):=aM.alloc (by simp) _;have j:W.heap[w.heap.size]?=some (.cells #[.string p,av] 48 (0,0)):=by
  rw[h.block _ (by simp;omega),aay _ _ _ (by simp)];exact By w _
 have i:W.heap[w.heap.size+1]?=some (.cells #[.string q,bv] 48 (0,0)):=by
  rw[h.block _ (by simp)];have:=By (w.alloc (.cells #[.string p,av] 48)) (.cells #[.string q,bv] 48);simpa using this
 refine⟨e.trans (h.mono e.size), ?_, ?_, ?_, ?_⟩
 ·rw[aq j];rfl
 ·rw[aq j];rfl
 ·rw[aq i];rfl
 ·rw[aq i];rfl
def dr(w:World)(v:Value)(a:List ByteArray):Prop:=a.length<=9223372036854775807/\∃d c,v=.slice d a.length c/\∀k (hk:k<a.length),∃g o,d=some ⟨g,o,none⟩/\g<w.heap.size/\a.length<=c/\w.cell? ⟨g,o+k,none⟩=some (.string a[k])
theorem dr.below(h:dr w v a)(j:Below w.heap.size w w'):dr w' v a:=by
 obtain⟨A,d,c,e,y⟩:=h;refine⟨A,d,c,e,λk x=>?_⟩;obtain⟨g,o,u,i,t,q⟩:=y k x;exact⟨g,o,u,aa7 i j.size,t,by rw[j.cell i];exact q⟩
theorem dr.shape(h:dr w v a):∃d c,v=.slice d a.length c:=by grind [dr]
theorem dr.le(h:dr w v a):a.length<=9223372036854775807:=h.1
theorem dr.at{d}(h:dr w (.slice d n c) a)(e:k<a.length):∃g o,d=some ⟨g,o,none⟩/\g<w.heap.size/\n<=c/\w.cell? ⟨g,o+k,none⟩=some (.string a[k]):=by grind [dr]
theorem xh{B}(h:w.ownsRow B 9 1 v a.length (strCells a)):dr w v a:=by
 have q:=aH h;obtain⟨d,c,rfl⟩:=ah h;refine⟨q,d,c,rfl,λk e=>?_⟩;obtain⟨g,rfl,i,j,t⟩:=aA (aD h (IS _));exact⟨g,0,rfl,i,j,by rw[acm];exact t _ _ (fy a k e)⟩
theorem Pt(w p q a b av bv)(J:dr w av a)(j:dr w bv b):
 Calls prog 214 #[.agg #[.string p,av],.agg #[.string q,bv]] w λe w'=>e=.returned (.bool (decide ((p,a)=(q,b))))/\Below w.heap.size w w':=by
 obtain⟨ad,ac,rfl⟩:=J.shape;obtain⟨bd,bc,rfl⟩:=j.shape;have HA:=aj J;have HB:=aj j;have V:=J.le;have U:=j.le;have u:=boxes (w:=w) (p:=p) (q:=q) (av:=.slice ad a.length ac) (bv:=.slice bd b.length bc);clear J j;by_cases I:p=q
 ·have N:(p.toList==q.toList)=true:=by rw[I];simp
  subst I;by_cases hl:a.length=b.length
  ·generalize hR:decide ((p,a)=(p,b))=R;have mB:=aj hR;obtain⟨n,M⟩:∃n,a.length=n:=⟨_,rfl⟩;have H:b.length=n:=by omega
   have O:Hid (a.length=n/\b.length=n):=⟨M,H⟩;rw[M]at HA u V;rw[H]at HB u U;rw[M,H];clear hR hl M H
   go_enter func214,ntmps214
   go_wp2_with fail
   go_loopw [5] (λi wr=>∃k:Nat,k<=n/\i=.int .i64 k/\a.take k=b.take k/\Below ((w.alloc (.cells #[.string p,.slice ad n ac] 48)).alloc (.cells #[.string p,.slice bd n bc] 48)).heap.size ((w.alloc (.cells #[.string p,.slice ad n ac] 48)).alloc (.cells #[.string p,.slice bd n bc] 48)) wr) (λi _=>n-(intOf i).toNat)
   ·exact⟨0,IS _,rfl,rfl,aaj _ _⟩
   ·
    obtain⟨k,NA,rfl,t,B⟩:=hrel;obtain⟨E,x0,x1,x2,x3⟩:=u.out wr B;have Y:=aj B;by_cases X:k<n
    ·have gD:decide ((k:Int)<n)=true:=aap (by omega);have h1:k<a.length:=by rw[O.out.1];exact X
     have h2:k<b.length:=by rw[O.out.2];exact X
     obtain⟨ga,oa,rfl,hga,hca,c1⟩:=(HA.out.below E).at h1;obtain⟨gb,Z,rfl,uh,R5,c2⟩:=(HB.out.below E).at h2;have i1:(0:Int)<=(k:Int):=by omega
     have i2:(k:Int)<n:=by omega
     have i3:(k:Int)<n:=by omega
     by_cases D:a[k]=b[k]
     ·have F:Hid (a.take (k+1)=b.take (k+1)):=BD h1 h2 t D;rw[D]at c1;have hq:(b[k].toList==b[k].toList)=true:=by simp
      clear t E D B N;generalize b[k]=x at*
      go_upto_region 6 with fail
      go_quiet (fail)
      have W:Hid (∀A,Below ((w.alloc (.cells #[.string p,.slice (some ⟨ga,oa,none⟩) n ac] 48)).alloc (.cells #[.string p,.slice (some ⟨gb,Z,none⟩) n bc] 48)).heap.size ((w.alloc (.cells #[.string p,.slice (some ⟨ga,oa,none⟩) n ac] 48)).alloc (.cells #[.string p,.slice (some ⟨gb,Z,none⟩) n bc] 48)) (wr.drewN A)):=λA=>Y.out.trans ⟨rfl,rfl,rfl,OF _,λ_ _=>rfl⟩
      go_wp2_with fail
      all_goals
       (go_roundw
        ·exact⟨k+1,X,by go_num,F.out,W.out _⟩
        ·(simp[intOf];omega))
     ·have F:Hid (R=false):=by
       show R=false;rw[<-mB.out,decide_eq_false_iff_not];intro e;simp only[abZ,true_and]at e;subst e;exact D rfl
      have hq:(a[k].toList==b[k].toList)=false:=by
       rw[ab1];exact λe=>D (Tb.toList_inj e)
      clear t E B N;generalize a[k]=x at*;generalize b[k]=y at*;have W:Hid (∀A,Below w.heap.size w (wr.drewN A)):=λA=>(u.out wr Y.out).1.trans ⟨rfl,rfl,rfl,OF _,λ_ _=>rfl⟩
      go_upto_region 6 with fail
      go_quiet (fail)
      go_wp2_with fail
      all_goals
       (go_ret
        exact⟨by rw[F.out];rfl,W.out _⟩)
    ·have gD:decide ((k:Int)<n)=false:=aab (by omega);have F:Hid (R=true):=by
      show R=true;rw[<-mB.out];have e1:a.take k=a:=aaP (by rw[O.out.1];omega);have e2:b.take k=b:=aaP (by rw[O.out.2];omega);rw[e1,e2]at t;rw[t];simp
     clear t B N
     go_wp2_with fail
     go_ret;exact⟨by rw[F.out];rfl,E⟩
  ·have hd:decide ((p,a)=(p,b))=false:=aab (λe=>hl (abu List.length (abu Prod.snd e)));have nX:((a.length:Int)==(b.length:Int))=false:=ab1.2 (by omega);rw[hd];have j:=(u.out _ (aaj _ _)).1
   go_enter func214,ntmps214
   go_wp2_with fail
   go_ret;exact⟨rfl,j⟩
 ·have hd:decide ((p,a)=(q,b))=false:=aab (λe=>I (abu Prod.fst e));have N:(p.toList==q.toList)=false:=by
   rw[ab1];exact λe=>I (Tb.toList_inj e)
  rw[hd];have j:=(u.out _ (aaj _ _)).1
  go_enter func214,ntmps214
  go_wp2_with fail
  go_ret;exact⟨rfl,j⟩
theorem Qk(w p q a b av){bv}(j:w.ownsRow 0 9 1 av a.length (strCells a))(i:w.ownsRow 0 9 1 bv b.length (strCells b)):
 Calls prog 214 #[.agg #[.string p,av],.agg #[.string q,bv]] w λe w'=>e=.returned (.bool (decide ((p,a)=(q,b))))/\Below w.heap.size w w':=Pt w p q a b av bv (xh j) (xh i)
theorem OH(w p q a b av bv)(J:w.ownsRow 0 9 1 av a.length (strCells a))(u:w.ownsRow 0 9 1 bv b.length (strCells b))(V:p=q->a.length=b.length):
 Calls prog 211 #[.agg #[.string p,av],.agg #[.string q,bv]] w λe w'=>e=.returned (.bool (gL (p::a) (q::b)))/\Below w.heap.size w w':=by
 obtain⟨ad,ac,rfl⟩:=ah J;obtain⟨bd,bc,rfl⟩:=ah u;have HA:=aj J;have HB:=aj u;have U:=aH J;have O:=aH u;have F:=boxes (w:=w) (p:=p) (q:=q) (av:=.slice ad a.length ac) (bv:=.slice bd b.length bc);clear J u;unfold gL;by_cases t:p=q
 ·rw[aa3 t];have N:(p.toList==q.toList)=true:=by rw[t];simp
  have V:=V t;subst t;generalize hR:gL a b=R;have mB:=aj hR;obtain⟨n,M⟩:∃n,a.length=n:=⟨_,rfl⟩;have I:b.length=n:=by omega
  have Kv:Hid (a.length=n/\b.length=n):=⟨M,I⟩;rw[M]at HA F U;rw[I]at HB F O;rw[M,I];clear hR V M I
  go_enter func211,ntmps211
  go_wp2_with fail
  go_loopw [5] (λi wr=>∃k:Nat,k<=n/\i=.int .i64 k/\a.take k=b.take k/\Below ((w.alloc (.cells #[.string p,.slice ad n ac] 48)).alloc (.cells #[.string p,.slice bd n bc] 48)).heap.size ((w.alloc (.cells #[.string p,.slice ad n ac] 48)).alloc (.cells #[.string p,.slice bd n bc] 48)) wr) (λi _=>n-(intOf i).toNat)
  ·exact⟨0,IS _,rfl,rfl,aaj _ _⟩
  ·
   obtain⟨k,NA,rfl,j,B⟩:=hrel;obtain⟨E,x0,x1,x2,x3⟩:=F.out wr B;have xx:=aj B;by_cases Z:k<n
   ·have gD:decide ((k:Int)<n)=true:=aap (by omega);have X:k<a.length:=by rw[Kv.out.1];exact Z
    have W:k<b.length:=by rw[Kv.out.2];exact Z
    obtain⟨ga,rfl,hga,hca,Li⟩:=aA (ae HA.out E);obtain⟨gb,rfl,uh,R5,Fo⟩:=aA (ae HB.out E);have c1:=Li _ _ (fy a k X);have c2:=Fo _ _ (fy b k W);have i1:(0:Int)<=(k:Int):=by omega
    have i2:(k:Int)<n:=by omega
    have i3:(k:Int)<n:=by omega
    by_cases D:a[k]=b[k]
    ·have H:Hid (a.take (k+1)=b.take (k+1)):=BD X W j D;rw[D]at c1;have hq:(b[k].toList==b[k].toList)=true:=by simp
     clear Li Fo j E D B N;generalize b[k]=x at*
     go_upto_region 6 with fail
     go_quiet (fail)
     have Y:Hid (∀A,Below ((w.alloc (.cells #[.string p,.slice (some ⟨ga,0,none⟩) n ac] 48)).alloc (.cells #[.string p,.slice (some ⟨gb,0,none⟩) n bc] 48)).heap.size ((w.alloc (.cells #[.string p,.slice (some ⟨ga,0,none⟩) n ac] 48)).alloc (.cells #[.string p,.slice (some ⟨gb,0,none⟩) n bc] 48)) (wr.drewN A)):=λA=>xx.out.trans ⟨rfl,rfl,rfl,OF _,λ_ _=>rfl⟩
     go_wp2_with fail
     all_goals
      (go_roundw
       ·exact⟨k+1,Z,by go_num,H.out,Y.out _⟩
       ·(simp[intOf];omega))
    ·have H:Hid (R=Tb.slt a[k] b[k]):=by
      show R=Tb.slt a[k] b[k];rw[<-mB.out];exact Cq X W j D
     have hq:(a[k].toList==b[k].toList)=false:=by
      rw[ab1];exact λe=>D (Tb.toList_inj e)
     clear Li Fo j E B N;generalize a[k]=x at*;generalize b[k]=y at*;have Y:Hid (∀A q2,Below w.heap.size w ((wr.drewN A).drewN q2)):=λA q2=>(F.out wr xx.out).1.trans ⟨rfl,rfl,rfl,OF _,λ_ _=>rfl⟩
     go_upto_region 6 with fail
     go_quiet (fail)
     go_upto_region 7 with fail
     go_quiet (fail)
     go_wp2_with fail
     all_goals
      (go_ret
       exact⟨by rw[H.out];rfl,Y.out _ _⟩)
   ·have gD:decide ((k:Int)<n)=false:=aab (by omega);have H:Hid (R=false):=by
     show R=false;rw[<-mB.out];exact Ce j (.inl (by rw[Kv.out.1];omega))
    clear j B N
    go_wp2_with fail
    go_ret;exact⟨by rw[H.out];rfl,E⟩
 ·rw[aaD t];have N:(p.toList==q.toList)=false:=by
   rw[ab1];exact λe=>t (Tb.toList_inj e)
  have u:=(F.out _ (aaj _ _)).1
  go_enter func211,ntmps211
  go_wp2_with fail
  go_ret;exact⟨rfl,u⟩
def FI.f(x:FI):En.ba:=(x.pred,x.args)
def rz{F:Type}[DecidableEq F]:List F->F->Nat
 | [],_=>0
 | a::l,f=>if a=f then 0 else rz l f+1
theorem KV{F}[DecidableEq F]{f}:∀{l:List F} {k:Nat} (i:k<l.length),¬f∈l.take k->l[k]=f->rz l f=k
 | a::l,0,_,_,e=>by simp at e;simp[rz,e]
 | a::l,k+1,i,h,e=>by
  simp at h;have j:¬a=f:=λe=>h.1 e.symm;rw[rz,aaD j,KV (by simpa using i) h.2 (by simpa using e)]
def fS(l:List En.ba)(f:En.ba):Int:=if Tb.eZ l f=true then (rz l f:Nat)else-1
theorem NY{l f}(i:k<l.length)(h:¬f∈l.take k)(e:l[k]=f):fS l f=(k:Nat):=by
 unfold fS;rw[aa3 (Tb.bt.2 (e▸IN i)),KV i h e]
theorem xV{l f}(h:¬f∈l):fS l f=-1:=aaD (λe=>h (Tb.bt.1 e))
theorem bJ.at_(h:bJ w fd fc l)(i:k<l.length):∃g,fd=some ⟨g,0,none⟩/\g<w.heap.size/\l.length<=fc/\w.cell? ⟨g,k*2,none⟩=some (.string (l[k]).pred)/\w.cell? ⟨g,k*2+1,none⟩=some (l[k]).av:=by
 obtain⟨g,e,t,q,j⟩:=aA h.row;exact⟨g,e,t,q,j _ _ (cP l k i).1,j _ _ (cP l k i).2⟩
structure lZ(w:World)(fd:Option Addr)(fc:Nat)(l:List FI):Prop where
 le:l.length<=9223372036854775807
 at_:∀{k:Nat} (hk:k<l.length),∃g,fd=some ⟨g,0,none⟩/\g<w.heap.size/\l.length<=fc/\w.cell? ⟨g,k*2,none⟩=some (.string (l[k]).pred)/\w.cell? ⟨g,k*2+1,none⟩=some (l[k]).av
 each:∀f,f∈l->f.ok w
theorem lZ.below(h:lZ w fd fc l)(i:Below w.heap.size w w'):lZ w' fd fc l:=by
 refine⟨h.le, ?_,λf t=>ae (h.each f t) i⟩;intro k q;obtain⟨g,e,j,y,x,u⟩:=h.at_ q;exact⟨g,e,aa7 j i.size,y,by rw[i.cell j];exact x,by rw[i.cell j];exact u⟩
theorem bJ.r(h:bJ w fd fc l):lZ w fd fc l:=⟨aH h.row,λe=>h.at_ e,h.each⟩
structure eV(w:World)(fd:Option Addr)(fc:Nat)(l:List FI):Prop where
 le:l.length<=9223372036854775807
 at_:∀{k:Nat} (hk:k<l.length),∃g o,fd=some ⟨g,o,none⟩/\g<w.heap.size/\l.length<=fc/\w.cell? ⟨g,o+k*2,none⟩=some (.string (l[k]).pred)/\w.cell? ⟨g,o+k*2+1,none⟩=some (l[k]).av
 each:∀f,f∈l->dr w f.av f.args
theorem eV.below(h:eV w fd fc l)(i:Below w.heap.size w w'):eV w' fd fc l:=by
 refine⟨h.le,λ{k} q=>?_,λf t=>(h.each f t).below i⟩;obtain⟨g,o,e,j,u,c0,c1⟩:=h.at_ q;exact⟨g,o,e,aa7 j i.size,u,by rw[i.cell j];exact c0,by rw[i.cell j];exact c1⟩
theorem lZ.z(h:lZ w fd fc l):eV w fd fc l:=by
 refine⟨h.le,λ{k} i=>?_,λf j=>xh (h.each f j)⟩;obtain⟨g,e,q,t,c0,c1⟩:=h.at_ i;grind
theorem CP(w fd fc l)(h:eV w fd fc l)(p a av)(M:dr w av a):
 Calls prog 165 #[.slice fd l.length fc,.agg #[.string p,av]] w λe w'=>e=.returned (.int .i64 (fS (l.map FI.f) (p,a)))/\Below w.heap.size w w':=by
 have HF:=aj h;have HS:Hid (∀W (x:FI),x∈l->Below w.heap.size w W->Calls prog 214 #[.agg #[.string x.pred,x.av],.agg #[.string p,av]] W λe w'=>e=.returned (.bool (decide (x.f=(p,a))))/\Hid (Below W.heap.size W w')):=by
  intro W x hx J;exact Pt W x.pred p x.args a x.av av ((h.each x hx).below J) (M.below J)
 have hle:=h.le;have u:Below w.heap.size w (w.alloc (.cells #[.string p,av] 48)):=aM;have I:(w.alloc (.cells #[.string p,av] 48)).heap[w.heap.size]?=some (.cells #[.string p,av] 48 (0,0)):=By w _;obtain⟨ad,ac,rfl⟩:=M.shape;clear h M
 go_enter func165,ntmps165
 go_wp2_with fail
 obtain⟨w1,dA⟩:∃w1,w1=w.alloc (.cells #[.string p,.slice ad a.length ac] 48):=⟨_,rfl⟩;rw[<-dA]at u I ⊢
 go_loopw [5] (λi wr=>∃k:Nat,k<=l.length/\i=.int .i64 k/\Hid (¬(p,a)∈(l.map FI.f).take k)/\Below w1.heap.size w1 wr) (λi _=>l.length-(intOf i).toNat)
 ·exact⟨0,IS _,rfl,λh=>by simp at h,aaj _ _⟩
 ·
  obtain⟨k,hk,rfl,HT,q⟩:=hrel;have A:Below w.heap.size w wr:=u.trans (q.mono u.size);have X:wr.heap[w.heap.size]?=some (.cells #[.string p,.slice ad a.length ac] 48 (0,0)):=by rw[q.block _ (lt_of_heap I)];exact I
  have x0:wr.cell? ⟨w.heap.size,0,none⟩=some (.string p):=by rw[aq X];rfl
  have x1:wr.cell? ⟨w.heap.size,1,none⟩=some (.slice ad a.length ac):=by rw[aq X];rfl
  have V:=aj q;have hBz:=u.size;by_cases j:k<l.length
  ·have gD:decide ((k:Int)<l.length)=true:=aap (by omega);obtain⟨g,go,rfl,hg,hc,c0,c1⟩:=(HF.out.below A).at_ j;have B:Hid (∀W,Below wr.heap.size wr W->Calls prog 214 #[.agg #[.string (l[k]).pred,(l[k]).av],.agg #[.string p,.slice ad a.length ac]] W λe w'=>e=.returned (.bool (decide ((l[k]).f=(p,a))))/\Hid (Below w1.heap.size w1 w')):=by
    intro W Y;refine(HS.out W l[k] (IN j) (A.trans (Y.mono A.size))).mono ?_;rintro e w' ⟨rfl,J⟩;have t:=V.out.trans (Y.mono V.out.size);exact⟨rfl,t.trans (J.out.mono t.size)⟩
   have i1:(0:Int)<=(k:Int):=by omega
   have i2:(k:Int)<l.length:=by omega
   have O:Hid (¬(l[k]).f=(p,a)->¬(p,a)∈(l.map FI.f).take (k+1)):=by
    intro cB hm;rw[aaZ,AS (by simpa using j)]at hm;rcases ZD.1 hm with hm | hm
    ·exact HT.out hm
    ·simp at hm;exact cB hm.symm
   have N:Hid ((l[k]).f=(p,a)->fS (l.map FI.f) (p,a)=(k:Nat)):=λe=>NY (by simpa using j) HT.out (by simpa using e);generalize Z:decide ((l[k]).f=(p,a))=D at*;have HD:=aj Z;obtain⟨F,yn,H,hy⟩:∃F yn H,(l[k]).av=.slice F yn H:=by
    obtain⟨F,H,e⟩:=(HF.out.each _ (IN j)).shape;exact⟨F,_,H,e⟩
   rw[hy]at c1 B;generalize (l[k]).pred=y at*;clear q A Z I u HT HS
   go_upto_region 4 with fail
   go_cut [6]from 7 to 20 (λcv wx=>cv=.bool D/\Hid (Below w1.heap.size w1 wx))
   ·
    go_region_with (go_at_call 214;refine(B.out _ (by exact(aaj _ _).drew)).mono ?_;rintro e w5 ⟨rfl,fR⟩)
    all_goals (go_wp2_with fail;go_meet;exact⟨by rfl,fR⟩)
   ·
    obtain⟨rfl,U⟩:=hcut;cases D with
    | true=>
     have E:=N.out (aei HD.out);have N8:Hid (Below w.heap.size w wc):=by
      have t:Below w.heap.size w w1:=by rw[dA];exact aM
      exact t.trans (U.out.mono t.size)
     clear N O
     go_wp2_with fail
     go_ret;exact⟨by rw[E];rfl,N8.out⟩
    | false=>
     have E:=O.out (of_decide_eq_false HD.out);clear N O
     go_wp2_with fail
     go_roundw
     ·exact⟨k+1,j,by go_num,E,U.out⟩
     ·(simp[intOf];omega)
  ·have gD:decide ((k:Int)<l.length)=false:=aab (by omega);have E:Hid (fS (l.map FI.f) (p,a)=-1):=by
    have e:(l.map FI.f).take k=l.map FI.f:=aaP (by simp;omega);have h9:=HT.out;rw[e]at h9;exact xV h9
   clear q
   go_wp2_with fail
   go_ret;exact⟨by rw[E.out];rfl,A⟩
/- axiomref: small, point. -/
theorem fX{c}:
 Calls prog 278 #[.int .i64 c] w λe w'=>e=.returned (.bool (Ax.jU c))/\w'=w:=by
 go_enter func278,ntmps278
 go_wp2_with fail
 all_goals
  go_ret;exact⟨eW (by unfold Ax.jU;rw[abH];simp<;>omega),rfl⟩
theorem iw{s i m}(h:s.size<=i+k\/Ax.byte s (i+k)<128\/191<Ax.byte s (i+k)):Ax.dZ s i (m+1) k c=none:=by simp[Ax.dZ,h]
theorem zw{s i m}(h:¬(s.size<=i+k\/Ax.byte s (i+k)<128\/191<Ax.byte s (i+k)):=by omega):Ax.dZ s i (m+1) k c=Ax.dZ s i m (k+1) (c*64+Ax.byte s (i+k)-128):=by simp[Ax.dZ,h]
theorem Dj{e}(h:c<e\/1114111<c\/(55296<=c/\c<=57343)):Ax.fE n e (some c)=(0,0):=by simp[Ax.fE,h]
theorem xT{e}(h:¬(c<e\/1114111<c\/(55296<=c/\c<=57343))):Ax.fE n e (some c)=(c,n):=by simp[Ax.fE,h]
theorem fN{t:Nat×Nat}{a b:Int}(i:a=t.1)(e:b=t.2):Ending.returned (.tuple #[.int .i64 a,.int .i64 b])=.returned (.tuple #[.int .i64 t.1,.int .i64 t.2]):=by rw[i,e]
/- axiomref: point at 2 bytes. -/
theorem TE(s i w)(hs:s.size<=1152921504606846976)(N:i<s.size)(Y:192<=Ax.byte s i)(X:Ax.byte s i<224):
 Calls prog 277 #[.string s,.int .i64 i] w λe w'=>e=.returned (.tuple #[.int .i64 (Ax.fE 2 128 (Ax.dZ s i 1 1 (Ax.byte s i-192))).1,.int .i64 (Ax.fE 2 128 (Ax.dZ s i 1 1 (Ax.byte s i-192))).2])/\w'=w:=by
 have F:=Ax.ej s i N;have d128:decide ((Ax.byte s i:Int)<128)=false:=by simp;omega
 have d192:decide ((Ax.byte s i:Int)<192)=false:=by simp;omega
 have d224:decide ((Ax.byte s i:Int)<224)=true:=by simp;omega
 generalize H:Ax.dZ s i 1 1 (Ax.byte s i-192)=R
 go_enter func277,ntmps277
 go_wp2_with fail
 go_loopg [6,9] 1 (λm c k wr=>∃q cv:Nat,q+m=2/\1<=q/\k=.int .i64 q/\c=.int .i64 cv/\((q=1/\cv<32)\/(q=2/\cv<2048)\/(q=3/\cv<131072)\/(q=4/\cv<8388608))/\Ax.dZ s i m q cv=R/\w=wr)
 ·exact⟨1,Ax.byte s i-192,rfl,OF _,rfl,by go_num,.inl ⟨rfl,by omega⟩,H,rfl⟩
 ·
  obtain⟨q,cv,M,P9,rfl,rfl,J,E,U⟩:=hrel;subst U;obtain⟨m,rfl⟩:∃x,x=gk:=⟨_,rfl⟩;have u:=aj E;have B:=aj J;have R5:cv<8388608:=by omega
  clear E H J F;cases m with
  | zero=>
   have A:¬q<2:=by omega
   have I:=aj u.out.symm;clear M;by_cases y:cv<128\/1114111<cv\/(55296<=cv/\cv<=57343)
   ·have j:Hid (Ax.fE 2 128 R=(0,0)):=by rw[I.out];exact Dj y
    rcases(show cv<128\/(128<=cv/\1114111<cv)\/(128<=cv/\cv<=1114111/\55296<=cv/\cv<=57343) by omega)with t | ⟨t,hy⟩ | ⟨t,hy,D,W⟩
    all_goals
     clear y
     (go_wp2_with fail)<;>(go_ret2;exact⟨fN (by rw[j.out];rfl) (by rw[j.out];rfl),rfl⟩)
   ·have j:Hid (Ax.fE 2 128 R=(cv,2)):=by rw[I.out];exact xT y
    rcases(show(128<=cv/\cv<=1114111/\cv<55296)\/(128<=cv/\cv<=1114111/\57343<cv) by omega)with⟨t,hy,D⟩ | ⟨t,hy,D⟩
    all_goals
     clear y
     (go_wp2_with fail)<;>(go_ret2;exact⟨fN (by rw[j.out]) (by rw[j.out];rfl),rfl⟩)
  | succ m=>
   have A:q<2:=by omega
   by_cases O:s.size<=i+q
   ·have j:Hid (Ax.fE 2 128 R=(0,0)):=by rw[<-u.out,iw (.inl O)];rfl
    go_wp2_with fail
    go_ret2
    exact⟨fN (by rw[j.out];rfl) (by rw[j.out];rfl),rfl⟩
   ·have F:=Ax.ej s (i+q) (by omega);have Z:=Ax.fQ s (i+q);rcases(show Ax.byte s (i+q)<128\/191<Ax.byte s (i+q)\/(128<=Ax.byte s (i+q)/\Ax.byte s (i+q)<=191) by omega)with t | t | ⟨t,hy⟩
    ·have j:Hid (Ax.fE 2 128 R=(0,0)):=by rw[<-u.out,iw (.inr (.inl t))];rfl
     go_wp2_with fail
     go_ret2
     exact⟨fN (by rw[j.out];rfl) (by rw[j.out];rfl),rfl⟩
    ·have j:Hid (Ax.fE 2 128 R=(0,0)):=by rw[<-u.out,iw (.inr (.inr t))];rfl
     go_wp2_with fail
     go_ret2
     exact⟨fN (by rw[j.out];rfl) (by rw[j.out];rfl),rfl⟩
    ·have V:Hid (Ax.dZ s i m (q+1) (cv*64+Ax.byte s (i+q)-128)=R):=by rw[<-u.out,zw];rfl
     go_wp2_with fail
     go_roundg m
     case measure=>omega
     case rel=>exact⟨q+1,cv*64+Ax.byte s (i+q)-128,by omega,by omega,by go_num,by go_num,by have:=B.out;omega,V.out,rfl⟩
/- axiomref: point at 3 bytes. -/
theorem Ts(s i w)(hs:s.size<=1152921504606846976)(N:i<s.size)(Y:224<=Ax.byte s i)(X:Ax.byte s i<240):
 Calls prog 277 #[.string s,.int .i64 i] w λe w'=>e=.returned (.tuple #[.int .i64 (Ax.fE 3 2048 (Ax.dZ s i 2 1 (Ax.byte s i-224))).1,.int .i64 (Ax.fE 3 2048 (Ax.dZ s i 2 1 (Ax.byte s i-224))).2])/\w'=w:=by
 have F:=Ax.ej s i N;have d128:decide ((Ax.byte s i:Int)<128)=false:=by simp;omega
 have d192:decide ((Ax.byte s i:Int)<192)=false:=by simp;omega
 have d224:decide ((Ax.byte s i:Int)<224)=false:=by simp;omega
 have d240:decide ((Ax.byte s i:Int)<240)=true:=by simp;omega
 generalize H:Ax.dZ s i 2 1 (Ax.byte s i-224)=R
 go_enter func277,ntmps277
 go_wp2_with fail
 go_loopg [6,9] 2 (λm c k wr=>∃q cv:Nat,q+m=3/\1<=q/\k=.int .i64 q/\c=.int .i64 cv/\((q=1/\cv<32)\/(q=2/\cv<2048)\/(q=3/\cv<131072)\/(q=4/\cv<8388608))/\Ax.dZ s i m q cv=R/\w=wr)
 ·exact⟨1,Ax.byte s i-224,rfl,OF _,rfl,by go_num,.inl ⟨rfl,by omega⟩,H,rfl⟩
 ·
  obtain⟨q,cv,M,P9,rfl,rfl,J,E,U⟩:=hrel;subst U;obtain⟨m,rfl⟩:∃x,x=gk:=⟨_,rfl⟩;have u:=aj E;have B:=aj J;have R5:cv<8388608:=by omega
  clear E H J F;cases m with
  | zero=>
   have A:¬q<3:=by omega
   have I:=aj u.out.symm;clear M;by_cases y:cv<2048\/1114111<cv\/(55296<=cv/\cv<=57343)
   ·have j:Hid (Ax.fE 3 2048 R=(0,0)):=by rw[I.out];exact Dj y
    rcases(show cv<2048\/(2048<=cv/\1114111<cv)\/(2048<=cv/\cv<=1114111/\55296<=cv/\cv<=57343) by omega)with t | ⟨t,hy⟩ | ⟨t,hy,D,W⟩
    all_goals
     clear y
     (go_wp2_with fail)<;>(go_ret2;exact⟨fN (by rw[j.out];rfl) (by rw[j.out];rfl),rfl⟩)
   ·have j:Hid (Ax.fE 3 2048 R=(cv,3)):=by rw[I.out];exact xT y
    rcases(show(2048<=cv/\cv<=1114111/\cv<55296)\/(2048<=cv/\cv<=1114111/\57343<cv) by omega)with⟨t,hy,D⟩ | ⟨t,hy,D⟩
    all_goals
     clear y
     (go_wp2_with fail)<;>(go_ret2;exact⟨fN (by rw[j.out]) (by rw[j.out];rfl),rfl⟩)
  | succ m=>
   have A:q<3:=by omega
   by_cases O:s.size<=i+q
   ·have j:Hid (Ax.fE 3 2048 R=(0,0)):=by rw[<-u.out,iw (.inl O)];rfl
    go_wp2_with fail
    go_ret2
    exact⟨fN (by rw[j.out];rfl) (by rw[j.out];rfl),rfl⟩
   ·have F:=Ax.ej s (i+q) (by omega);have Z:=Ax.fQ s (i+q);rcases(show Ax.byte s (i+q)<128\/191<Ax.byte s (i+q)\/(128<=Ax.byte s (i+q)/\Ax.byte s (i+q)<=191) by omega)with t | t | ⟨t,hy⟩
    ·have j:Hid (Ax.fE 3 2048 R=(0,0)):=by rw[<-u.out,iw (.inr (.inl t))];rfl
     go_wp2_with fail
     go_ret2
     exact⟨fN (by rw[j.out];rfl) (by rw[j.out];rfl),rfl⟩
    ·have j:Hid (Ax.fE 3 2048 R=(0,0)):=by rw[<-u.out,iw (.inr (.inr t))];rfl
     go_wp2_with fail
     go_ret2
     exact⟨fN (by rw[j.out];rfl) (by rw[j.out];rfl),rfl⟩
    ·have V:Hid (Ax.dZ s i m (q+1) (cv*64+Ax.byte s (i+q)-128)=R):=by rw[<-u.out,zw];rfl
     go_wp2_with fail
     go_roundg m
     case measure=>omega
     case rel=>exact⟨q+1,cv*64+Ax.byte s (i+q)-128,by omega,by omega,by go_num,by go_num,by have:=B.out;omega,V.out,rfl⟩
/- axiomref: point at 4 bytes. -/
theorem SG(s i w)(hs:s.size<=1152921504606846976)(N:i<s.size)(Y:240<=Ax.byte s i)(X:Ax.byte s i<248):
 Calls prog 277 #[.string s,.int .i64 i] w λe w'=>e=.returned (.tuple #[.int .i64 (Ax.fE 4 65536 (Ax.dZ s i 3 1 (Ax.byte s i-240))).1,.int .i64 (Ax.fE 4 65536 (Ax.dZ s i 3 1 (Ax.byte s i-240))).2])/\w'=w:=by
 have F:=Ax.ej s i N;have d128:decide ((Ax.byte s i:Int)<128)=false:=by simp;omega
 have d192:decide ((Ax.byte s i:Int)<192)=false:=by simp;omega
 have d224:decide ((Ax.byte s i:Int)<224)=false:=by simp;omega
 have d240:decide ((Ax.byte s i:Int)<240)=false:=by simp;omega
 have d248:decide ((Ax.byte s i:Int)<248)=true:=by simp;omega
 generalize H:Ax.dZ s i 3 1 (Ax.byte s i-240)=R
 go_enter func277,ntmps277
 go_wp2_with fail
 go_loopg [6,9] 3 (λm c k wr=>∃q cv:Nat,q+m=4/\1<=q/\k=.int .i64 q/\c=.int .i64 cv/\((q=1/\cv<32)\/(q=2/\cv<2048)\/(q=3/\cv<131072)\/(q=4/\cv<8388608))/\Ax.dZ s i m q cv=R/\w=wr)
 ·exact⟨1,Ax.byte s i-240,rfl,OF _,rfl,by go_num,.inl ⟨rfl,by omega⟩,H,rfl⟩
 ·
  obtain⟨q,cv,M,P9,rfl,rfl,J,E,U⟩:=hrel;subst U;obtain⟨m,rfl⟩:∃x,x=gk:=⟨_,rfl⟩;have u:=aj E;have B:=aj J;have R5:cv<8388608:=by omega
  clear E H J F;cases m with
  | zero=>
   have A:¬q<4:=by omega
   have I:=aj u.out.symm;clear M;by_cases y:cv<65536\/1114111<cv\/(55296<=cv/\cv<=57343)
   ·have j:Hid (Ax.fE 4 65536 R=(0,0)):=by rw[I.out];exact Dj y
    rcases(show cv<65536\/(65536<=cv/\1114111<cv)\/(65536<=cv/\cv<=1114111/\55296<=cv/\cv<=57343) by omega)with t | ⟨t,hy⟩ | ⟨t,hy,D,W⟩
    all_goals
     clear y
     (go_wp2_with fail)<;>(go_ret2;exact⟨fN (by rw[j.out];rfl) (by rw[j.out];rfl),rfl⟩)
   ·have j:Hid (Ax.fE 4 65536 R=(cv,4)):=by rw[I.out];exact xT y
    rcases(show(65536<=cv/\cv<=1114111/\cv<55296)\/(65536<=cv/\cv<=1114111/\57343<cv) by omega)with⟨t,hy,D⟩ | ⟨t,hy,D⟩
    all_goals
     clear y
     (go_wp2_with fail)<;>(go_ret2;exact⟨fN (by rw[j.out]) (by rw[j.out];rfl),rfl⟩)
  | succ m=>
   have A:q<4:=by omega
   by_cases O:s.size<=i+q
   ·have j:Hid (Ax.fE 4 65536 R=(0,0)):=by rw[<-u.out,iw (.inl O)];rfl
    go_wp2_with fail
    go_ret2
    exact⟨fN (by rw[j.out];rfl) (by rw[j.out];rfl),rfl⟩
   ·have F:=Ax.ej s (i+q) (by omega);have Z:=Ax.fQ s (i+q);rcases(show Ax.byte s (i+q)<128\/191<Ax.byte s (i+q)\/(128<=Ax.byte s (i+q)/\Ax.byte s (i+q)<=191) by omega)with t | t | ⟨t,hy⟩
    ·have j:Hid (Ax.fE 4 65536 R=(0,0)):=by rw[<-u.out,iw (.inr (.inl t))];rfl
     go_wp2_with fail
     go_ret2
     exact⟨fN (by rw[j.out];rfl) (by rw[j.out];rfl),rfl⟩
    ·have j:Hid (Ax.fE 4 65536 R=(0,0)):=by rw[<-u.out,iw (.inr (.inr t))];rfl
     go_wp2_with fail
     go_ret2
     exact⟨fN (by rw[j.out];rfl) (by rw[j.out];rfl),rfl⟩
    ·have V:Hid (Ax.dZ s i m (q+1) (cv*64+Ax.byte s (i+q)-128)=R):=by rw[<-u.out,zw];rfl
     go_wp2_with fail
     go_roundg m
     case measure=>omega
     case rel=>exact⟨q+1,cv*64+Ax.byte s (i+q)-128,by omega,by omega,by go_num,by go_num,by have:=B.out;omega,V.out,rfl⟩
/- axiomref: point. -/
theorem iq(s)(i:Nat)(hs:s.size<=1152921504606846976)(y:i<s.size):
 Calls prog 277 #[.string s,.int .i64 i] w λe w'=>e=.returned (.tuple #[.int .i64 (Ax.pt s i).1,.int .i64 (Ax.pt s i).2])/\w'=w:=by
 have E:=Ax.fQ s i;have D:=Ax.ej s i y;by_cases t:Ax.byte s i<128
 ·have j:Ax.pt s i=(Ax.byte s i,1):=by simp[Ax.pt,t]
  have q:=aj j;clear j
  go_enter func277,ntmps277
  go_wp2_with fail
  go_ret2
  exact⟨fN (by rw[q.out]) (by rw[q.out];rfl),rfl⟩
 by_cases x:Ax.byte s i<192
 ·have q:Hid (Ax.pt s i=(0,0)):=by simp[Hid,Ax.pt,t,x]
  go_enter func277,ntmps277
  go_wp2_with fail
  go_ret2
  exact⟨fN (by rw[q.out];rfl) (by rw[q.out];rfl),rfl⟩
 by_cases u:Ax.byte s i<224
 ·have j:Ax.pt s i=Ax.fE 2 128 (Ax.dZ s i 1 1 (Ax.byte s i-192)):=by simp[Ax.pt,t,x,u]
  rw[j];exact TE s i w hs y (by omega) u
 by_cases A:Ax.byte s i<240
 ·have j:Ax.pt s i=Ax.fE 3 2048 (Ax.dZ s i 2 1 (Ax.byte s i-224)):=by simp[Ax.pt,t,x,u,A]
  rw[j];exact Ts s i w hs y (by omega) A
 by_cases B:Ax.byte s i<248
 ·have j:Ax.pt s i=Ax.fE 4 65536 (Ax.dZ s i 3 1 (Ax.byte s i-240)):=by simp[Ax.pt,t,x,u,A,B]
  rw[j];exact SG s i w hs y (by omega) B
 ·have q:Hid (Ax.pt s i=(0,0)):=by simp[Hid,Ax.pt,t,x,u,A,B]
  go_enter func277,ntmps277
  go_wp2_with fail
  go_ret2
  exact⟨fN (by rw[q.out];rfl) (by rw[q.out];rfl),rfl⟩
