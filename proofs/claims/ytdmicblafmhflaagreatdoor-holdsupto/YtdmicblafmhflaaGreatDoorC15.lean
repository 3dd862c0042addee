/- axiomref: Apply. -/
import Derived.Test.YtdmicblafmhflaaGreatDoorC14
import Derived.Lib.AppendIntMem
set_option linter.unusedSimpArgs false
set_option linter.unusedVariables false
set_option maxHeartbeats 4000000
set_option maxRecDepth 100000
namespace Go.Proofs.YtdmicblafmhflaaGreatDoor
open Go.Proofs.Tryz Go.RowKit
variable{l:List FI}{w:World}
def Rf.jV(gone:List En.ba):List En.ba->List En.ba->List En.ba
 | now,[]=>now
 | now,x::xs=>Rf.jV gone (if (Tb.eZ now x||Tb.eZ gone x)=true then now else now++[x]) xs
theorem Rf.qe(gone):∀(xs now:List En.ba),now.Nodup->(Rf.jV gone now xs).Nodup/\∀f,f∈Rf.jV gone now xs↔f∈now\/(f∈xs/\¬f∈gone)
 | [],now,j=>⟨j,λf=>by simp[Rf.jV]⟩
 | x::xs,now,j=>by
  by_cases t:x∈now
  ·have e:(Tb.eZ now x||Tb.eZ gone x)=true:=by rw[Tb.bt.2 t];rfl
   obtain⟨a,b⟩:=Rf.qe gone xs now j;unfold Rf.jV;rw[aa3 e];refine⟨a,λf=>?_⟩;rw[b f,BY];constructor
   ·rintro(h | h)
    ·exact .inl h
    ·exact .inr ⟨.inr h.1,h.2⟩
   ·rintro(h | ⟨rfl | h,i⟩)
    ·exact .inl h
    ·exact .inl t
    ·exact .inr ⟨h,i⟩
  ·by_cases i:x∈gone
   ·have e:(Tb.eZ now x||Tb.eZ gone x)=true:=by rw[Tb.bt.2 i];simp
    obtain⟨a,b⟩:=Rf.qe gone xs now j;unfold Rf.jV;rw[aa3 e];refine⟨a,λf=>?_⟩;rw[b f,BY];constructor
    ·rintro(h | h)
     ·exact .inl h
     ·exact .inr ⟨.inr h.1,h.2⟩
    ·rintro(h | ⟨rfl | h,q⟩)
     ·exact .inl h
     ·exact absurd i q
     ·exact .inr ⟨h,q⟩
   ·have e:¬(Tb.eZ now x||Tb.eZ gone x)=true:=by
     rw[aeR,Tb.bt,Tb.bt];rintro(h | h)
     ·exact t h
     ·exact i h
    have A:(now++[x]).Nodup:=by
     rw[adn];refine⟨j,by simp, ?_⟩;intro a w b u y;simp at u;rw[y,u]at w;exact t w
    obtain⟨a,b⟩:=Rf.qe gone xs (now++[x]) A;unfold Rf.jV;rw[aaD e];refine⟨a,λf=>?_⟩;rw[b f,ZD,BY,BY];constructor
    ·rintro((h | h | h) | h)
     ·exact .inl h
     ·exact .inr ⟨.inl h,by rw[h];exact i⟩
     ·cases h
     ·exact .inr ⟨.inr h.1,h.2⟩
    ·rintro(h | ⟨h | h,q⟩)
     ·exact .inl (.inl h)
     ·exact .inl (.inr (.inl h))
     ·exact .inr ⟨h,q⟩
structure vD(w:World)(cd:Option Addr)(cc:Nat)(ay:List FI):Prop where
 z:eV w cd cc ay
 my:ay.length<=1048576
 args:∀f,f∈ay->f.args.length<=1048576
 sz:∀f,f∈ay->∀x,x∈f.args->x.size<=1152921504606846976
theorem vD.below{w' cd cc ay}(h:vD w cd cc ay)(e:Below w.heap.size w w'):vD w' cd cc ay:=⟨h.z.below e,h.my,h.args,h.sz⟩
def okF(o:List (ByteArray×Nat))(l:List FI):Bool:=l.all λf=>vW o f.pred f.args
def ie(w:World)(rg:Nat)(rl:List QR)(o:List (ByteArray×Nat))(pl:ByteArray)(Gd:List En.ba)(bs:ByteArray)(rv pv:Value)(ay gone:List FI)(L:Nat)(e:Ending)(w':World):Prop:=
 if 64<ay.length+gone.length then e=.returned (.int .i64 3)/\Below w.heap.size w w'
 else if (okF o ay&&okF o gone)=false then e=.returned (.int .i64 6)/\Below w.heap.size w w'
 else match (if 40<(Rf.jV (gone.map FI.f) [] (Gd++ay.map FI.f)).length then none else Rf.tN (rl.map QR.aw) 300 (Rf.jV (gone.map FI.f) [] (Gd++ay.map FI.f)) true [])with
 | none=>e=.returned (.int .i64 7)/\Below w.heap.size w w'
 | some M=>e=.returned (.int .i64 0)/\Kb [rg] w w'/\∃(G' Dt:List FI) (vN ox:ByteArray) (V4 Wh cv':Value),qD w' rg rl o pl G' Dt vN ox rv pv V4 Wh cv'/\G'.map FI.f=Rf.jV (gone.map FI.f) [] (Gd++ay.map FI.f)/\Dt.map FI.f=Rf.cS M/\ox.size=32/\vN.size<=bs.size+2*L+50/\(∀f,f∈G'\/f∈Dt->∀q,f.av.ownBlock=some q->w.heap.size<=q)/\∀q,V4.ownBlock=some q\/Wh.ownBlock=some q->w.heap.size<=q
theorem qy{P j rest o a}{Q:Exit->Act->World->Prop}(A:o.guard=none)(s x t)
 (D:o.op=.call {callee:=.builtin .append,args:=#[s,x],argTypes:=#[t,t]})
 (base e i size)(q:P.underlying t=some (.slice e))(u:P.info? e=some i)
 (v n xs)(hs:a.eval s=v)(H:w.ownsRow base e size v n xs)(m c)(hm:m=0)(B:a.eval x=.slice none m c)
 (h:wpList P j Q rest (a.put o.dst v) w):wpList P j Q (o::rest) a w:=by
 subst hm;refine wpList_plain A λK E=>?_;have y:(Builtin.append_ #[t,t] o.type #[v,.slice none 0 c]).run P w=.ok v w:=by
  rcases H.2 with⟨rfl,rfl⟩ | ⟨g,cap,F,rfl,_,_,I,_⟩
  ·simp[Builtin.append_,acQ q,sizeOf,typeInfo,u,Builtin.lenOf,Builtin.firstCells]
  ·simp[Builtin.append_,acQ q,sizeOf,typeInfo,u,Builtin.lenOf,Builtin.firstCells,I,storeCells]
 unfold Oper.wp;simp[execOp,D,resolve,invoke,builtin,hs,B,y,Result.andThen];exact E _ _ h
theorem Me{B n d c}(h:w.ownsRow B 48 2 (.slice d n c) n (ax l))(e:l.length=n)(j:∀f,f∈l->dr w f.av f.args):eV w d c l:=by
 refine⟨by rw[e];exact aH h,λ{k} i=>?_,j⟩;obtain⟨g,rfl,u,x,y⟩:=aA (aD h (IS _));obtain⟨t,q⟩:=cP l k i;grind
theorem C4{d c}(h:eV w d c l):∀j u,(ax l)[j]?=some u->∃t,d=some t/\w.cell? (t.add j)=some u:=by
 intro j u x;have E:j<l.length*2:=by rw[<-aX];exact(abt.1 x).1
 have q:j/2<l.length:=by omega
 obtain⟨g,o,e,_,_,c0,c1⟩:=h.at_ q;obtain⟨D,B⟩:=cP l (j/2) q;refine⟨_,e, ?_⟩;have A:∀i,(⟨g,o,none⟩:Addr).add i=⟨g,o+i,none⟩:=by intro i;unfold Addr.add;split<;>simp_all
 rw[A];rcases Nat.mod_two_eq_zero_or_one j with y | y
 ·grind
 ·grind
theorem Ei(h:∀f,f∈l->dr w f.av f.args):∀u∈ax l,u.oneCell'=true:=by
 intro u i;obtain⟨z,j,i⟩:=aa9.1 i;simp only[BY,acC,aeH]at i;rcases i with rfl | rfl
 ·rfl
 ·obtain⟨d,c,e⟩:=(h z j).shape;rw[e];rfl
theorem Ge{o k}(e:k<l.length):okF o (l.take (k+1))=(okF o (l.take k)&&vW o (l[k]).pred (l[k]).args):=by
 unfold okF;rw[aaZ,AS e,List.all_append];simp
theorem Iw(w:World)(rg:Nat)(rl o)(pl:ByteArray)(G out)(bs hd:ByteArray)(rv pv gv mv cv:Value)(h:qD w rg rl o pl G out bs hd rv pv gv mv cv)(dR:Rf.Ac (rl.map QR.aw))(hoB:∀p a,vW o p a=true->Rf.iR (rl.map QR.aw) (p,a))(wY:(G.map FI.f).Nodup)(PZ:∀f,f∈G->Rf.iR (rl.map QR.aw) f.f)(hGl:G.length<=40)
 (cd)(cc:Nat)(ay gd)(gc:Nat)(gone)(w0:World)(cZ:Below w0.heap.size w0 w)(I9:w0.heap.size<=rg)(hcz:vD w0 cd cc ay)(hgz:vD w0 gd gc gone)(L:Nat)(hL:L<=1000000000)(Er:okF o ay=true->ay.length<=64->(Rc.dK ay).length<=L)(eQ:okF o gone=true->gone.length<=64->(Rc.dK gone).length<=L)(D:bs.size<=100000000000000)(hh:hd.size<=32):
 Calls prog 93 #[.pointer (some ⟨rg,0,none⟩),.slice cd ay.length cc,.slice gd gone.length gc] w λe w'=>ie w rg rl o pl (G.map FI.f) bs rv pv ay gone L e w':=by
 obtain⟨rd,rc,e1,h1⟩:=h.rules;obtain⟨J,O,e2,h2⟩:=h.lj;obtain⟨ad,ac,e3,h3⟩:=h.given;subst e1 e2 e3;have hc:=hcz.below cZ;have hg:=hgz.below cZ;have G9:=hc.my;have ML:=hg.my;by_cases MD:64<ay.length+gone.length
 ·have hd0:decide ((64:Int)<(ay.length:Int)+gone.length)=true:=aap (by omega);have vA:Hid (ie w rg rl o pl (G.map FI.f) bs (.slice rd rl.length rc) (.slice J o.length O) ay gone L (.returned (.int .i64 3)) w):=by
   unfold ie;show(if _ then _ else _);rw[aa3 MD];exact⟨rfl,aaj _ _⟩
  clear h dR hoB wY PZ hc hg hcz hgz cZ Er eQ h1 h2 h3
  go_enter func93,ntmps93
  go_wp2_with fail
  go_ret;exact vA.out
 have hd0:decide ((64:Int)<(ay.length:Int)+gone.length)=false:=aab (by omega);have Qb:IntKind.i64.wrap ((ay.length:Int)+gone.length)=(ay.length:Int)+gone.length:=by rw[aaR];omega
 have HPF:Hid (∀w',(okF o ay&&okF o gone)=false->Below w.heap.size w w'->ie w rg rl o pl (G.map FI.f) bs (.slice rd rl.length rc) (.slice J o.length O) ay gone L (.returned (.int .i64 6)) w'):=by
  intro w' he D;unfold ie;rw[aaD MD,aa3 he];exact⟨rfl,D⟩
 have HPG:Hid (∀e w',okF o ay=true->okF o gone=true->(match (if 40<(Rf.jV (gone.map FI.f) [] (G.map FI.f++ay.map FI.f)).length then none else Rf.tN (rl.map QR.aw) 300 (Rf.jV (gone.map FI.f) [] (G.map FI.f++ay.map FI.f)) true [])with
  | none=>e=.returned (.int .i64 7)/\Below w.heap.size w w'
  | some M=>e=.returned (.int .i64 0)/\Kb [rg] w w'/\∃(G' Dt:List FI) (vN ox:ByteArray) (V4 Wh cv':Value),qD w' rg rl o pl G' Dt vN ox (.slice rd rl.length rc) (.slice J o.length O) V4 Wh cv'/\G'.map FI.f=Rf.jV (gone.map FI.f) [] (G.map FI.f++ay.map FI.f)/\Dt.map FI.f=Rf.cS M/\ox.size=32/\vN.size<=bs.size+2*L+50/\(∀f,f∈G'\/f∈Dt->∀q,f.av.ownBlock=some q->w.heap.size<=q)/\∀q,V4.ownBlock=some q\/Wh.ownBlock=some q->w.heap.size<=q)->ie w rg rl o pl (G.map FI.f) bs (.slice rd rl.length rc) (.slice J o.length O) ay gone L e w'):=by
  intro e w' k1 k2 hm;unfold ie;rw[aaD MD,aaD (by rw[k1,k2];decide)];exact hm
 obtain⟨c0,c1,c2,c3,_,_,_,_,_,qC⟩:=iA h.aY;have HC:Hid (∀W,Below w.heap.size w W->W.cell? ⟨rg,0,none⟩=some (.slice rd rl.length rc)/\W.cell? ⟨rg,1,none⟩=some (.slice J o.length O)/\W.cell? ⟨rg,2,none⟩=some (.string pl)/\W.cell? ⟨rg,3,none⟩=some (.slice ad G.length ac)/\rg<W.heap.size):=λW A=>⟨by rw[A.cell qC];exact c0,by rw[A.cell qC];exact c1,by rw[A.cell qC];exact c2,by rw[A.cell qC];exact c3,aa7 qC A.size⟩;have RX:Hid (∀W (l:List FI) (k:Nat) (hk:k<l.length) ld lc,vD w ld lc l->Below w.heap.size w W->Calls prog 164 #[.agg #[.slice rd rl.length rc,.slice J o.length O,.string pl],.agg #[.string (l[k]).pred,(l[k]).av]] W λe w'=>e=.returned (.bool (vW o (l[k]).pred (l[k]).args))/\Below w.heap.size w w'):=by
  intro W l k hk ld lc hz A;have hm:=IN hk;refine(ab8 W rd rl.length rc J O o (ae h2 A) pl _ _ ((hz.z.each _ hm).below A) (hz.sz _ hm)).mono ?_;rintro e w' ⟨rfl,D⟩;exact⟨rfl,A.trans (D.mono A.size)⟩
 have HZ0:Hid (vD w0 cd cc ay/\vD w0 gd gc gone/\Below w0.heap.size w0 w/\w0.heap.size<=rg):=⟨hcz,hgz,cZ,I9⟩;have Vk:=aj hc;have HZG:=aj hg;have Av:=aj h;have HDA:Hid (Rf.Ac (rl.map QR.aw)/\(∀p a,vW o p a=true->Rf.iR (rl.map QR.aw) (p,a))/\(G.map FI.f).Nodup/\(∀f,f∈G->Rf.iR (rl.map QR.aw) f.f)):=⟨dR,hoB,wY,PZ⟩;have HLB:Hid ((okF o ay=true->ay.length<=64->(Rc.dK ay).length<=L)/\(okF o gone=true->gone.length<=64->(Rc.dK gone).length<=L)):=⟨Er,eQ⟩;clear h dR hoB wY PZ hc hg hcz hgz cZ I9 Er eQ h1 h2 h3 c0 c1 c2 c3 qC
 go_enter func93,ntmps93
 go_wp2_with fail
 go_loopw [7] (λiv wr=>∃i:Nat,i<=ay.length+gone.length/\iv=.int .i64 i/\Hid (okF o (ay.take i)=true/\okF o (gone.take (i-ay.length))=true/\Below w.heap.size w wr)) (λiv _=>ay.length+gone.length-(intOf iv).toNat)
 ·exact⟨0,IS _,rfl,by simp[okF],by simp[okF],aaj _ _⟩
 ·
  obtain⟨i,hi,rfl,H⟩:=hrel;obtain⟨c0,c1,c2,c3,qC⟩:=HC.out wr H.out.2.2;by_cases h1:i<ay.length+gone.length
  ·have gD:decide ((i:Int)<ay.length+(gone.length:Int))=true:=aap (by omega);by_cases h2:i<ay.length
   ·have ib:decide ((i:Int)<ay.length)=true:=aap (by omega);obtain⟨g,go,hcd,hg,wQ,d0,d1⟩:=(Vk.out.z.below H.out.2.2).at_ h2;subst hcd;obtain⟨yd,yc,hy⟩:=(Vk.out.z.each _ (IN h2)).shape;have SH:Hid (∀W,Below wr.heap.size wr W->Calls prog 164 #[.agg #[.slice rd rl.length rc,.slice J o.length O,.string pl],.agg #[.string (ay[i]).pred,(ay[i]).av]] W λe w'=>e=.returned (.bool (vW o (ay[i]).pred (ay[i]).args))/\(w'.cell? ⟨rg,0,none⟩=some (.slice rd rl.length rc)/\w'.cell? ⟨rg,1,none⟩=some (.slice J o.length O)/\w'.cell? ⟨rg,2,none⟩=some (.string pl)/\w'.cell? ⟨g,go+i*2,none⟩=some (.string (ay[i]).pred)/\w'.cell? ⟨g,go+i*2+1,none⟩=some (ay[i]).av)/\Hid (Below w.heap.size w w')):=by
     intro W A;have zR:=H.out.2.2.trans (A.mono H.out.2.2.size);refine(RX.out W ay i h2 _ _ Vk.out zR).mono ?_;rintro e w' ⟨rfl,D⟩;obtain⟨q0,q1,q2,_,_⟩:=HC.out w' D;obtain⟨g',go',e',_,_,q3,q4⟩:=(Vk.out.z.below D).at_ h2;cases e';exact⟨rfl,⟨q0,q1,q2,q3,q4⟩,D⟩
    have tL:=Ge (o:=o) (l:=ay) h2;have DR:=aj tL;rw[hy]at d1 SH;generalize hBB:vW o (ay[i]).pred (ay[i]).args=B at*;generalize (ay[i]).pred=yp at*;generalize (ay[i]).args.length=yn at*;have b1:(0:Int)<=(i:Int):=by omega
    have b2:(i:Int)<ay.length:=by omega
    clear hy hBB tL
    go_upto_region 8 with fail
    go_cut [8]from 34 to 56 (λv8 wx=>v8=.bool B/\Hid (Below w.heap.size w wx))
    ·
     go_region_held3 (λW=>W.cell? ⟨rg,0,none⟩=some (.slice rd rl.length rc)/\W.cell? ⟨rg,1,none⟩=some (.slice J o.length O)/\W.cell? ⟨rg,2,none⟩=some (.string pl)/\W.cell? ⟨g,go+i*2,none⟩=some (.string yp)/\W.cell? ⟨g,go+i*2+1,none⟩=some (.slice yd yn yc)) (go_keep) ((go_at_call 164;refine(SH.out _ (by exact(aaj _ _).drew)).mono ?_;rintro e w5 ⟨rfl,⟨k0,k1,k2,k3,k4⟩,H5⟩))
     all_goals (go_wp2_with fail;go_meet;exact⟨rfl,H5⟩)
    ·
     obtain⟨rfl,qA⟩:=hcut;cases B with
     | true=>
      have HN:Hid (okF o (ay.take (i+1))=true/\okF o (gone.take (i+1-ay.length))=true):=by
       refine⟨by rw[DR.out,H.out.1];rfl, ?_⟩;have e9:i+1-ay.length=0:=by omega
       rw[e9];simp[okF]
      clear H DR SH
      go_wp2_with fail
      go_roundw
      ·exact⟨i+1,h1,by go_num,HN.out.1,HN.out.2,qA.out⟩
      ·(simp[intOf];omega)
     | false=>
      have HN:Hid ((okF o ay&&okF o gone)=false):=by
       have t:okF o ay=false:=by
        rw[acZ];intro Y;have h7:okF o (ay.take (i+1))=true:=by
         unfold okF at Y ⊢;rw[aeM]at Y ⊢;exact λf E=>Y f (ab4 E)
        rw[DR.out,H.out.1]at h7;cases h7
       show(_&&_)=false;rw[t];rfl
      clear H DR SH
      go_wp2_with fail
      go_ret;exact HPF.out _ HN.out qA.out
   ·have ib:decide ((i:Int)<ay.length)=false:=aab (by omega);obtain⟨j,hj⟩:∃j,i=ay.length+j:=⟨i-ay.length,by omega⟩;have Z:=aj hj;have h3:j<gone.length:=by omega
    have hwj:IntKind.i64.wrap ((i:Int)-ay.length)=(j:Int):=by rw[aaR];omega
    clear hj;obtain⟨g,go,hcd,hg,wQ,d0,d1⟩:=(HZG.out.z.below H.out.2.2).at_ h3;subst hcd;obtain⟨yd,yc,hy⟩:=(HZG.out.z.each _ (IN h3)).shape;have SH:Hid (∀W,Below wr.heap.size wr W->Calls prog 164 #[.agg #[.slice rd rl.length rc,.slice J o.length O,.string pl],.agg #[.string (gone[j]).pred,(gone[j]).av]] W λe w'=>e=.returned (.bool (vW o (gone[j]).pred (gone[j]).args))/\(w'.cell? ⟨rg,0,none⟩=some (.slice rd rl.length rc)/\w'.cell? ⟨rg,1,none⟩=some (.slice J o.length O)/\w'.cell? ⟨rg,2,none⟩=some (.string pl)/\w'.cell? ⟨g,go+j*2,none⟩=some (.string (gone[j]).pred)/\w'.cell? ⟨g,go+j*2+1,none⟩=some (gone[j]).av)/\Hid (Below w.heap.size w w')):=by
     intro W A;have zR:=H.out.2.2.trans (A.mono H.out.2.2.size);refine(RX.out W gone j h3 _ _ HZG.out zR).mono ?_;rintro e w' ⟨rfl,D⟩;obtain⟨q0,q1,q2,_,_⟩:=HC.out w' D;obtain⟨g',go',e',_,_,q3,q4⟩:=(HZG.out.z.below D).at_ h3;cases e';exact⟨rfl,⟨q0,q1,q2,q3,q4⟩,D⟩
    have tL:=Ge (o:=o) (l:=gone) h3;have DR:=aj tL;rw[hy]at d1 SH;generalize hBB:vW o (gone[j]).pred (gone[j]).args=B at*;generalize (gone[j]).pred=yp at*;generalize (gone[j]).args.length=yn at*;have b1:(0:Int)<=(j:Int):=by omega
    have b2:(j:Int)<gone.length:=by omega
    clear hy hBB tL
    go_upto_region 9 with fail
    go_cut [8]from 43 to 56 (λv8 wx=>v8=.bool B/\Hid (Below w.heap.size w wx))
    ·
     go_region_held3 (λW=>W.cell? ⟨rg,0,none⟩=some (.slice rd rl.length rc)/\W.cell? ⟨rg,1,none⟩=some (.slice J o.length O)/\W.cell? ⟨rg,2,none⟩=some (.string pl)/\W.cell? ⟨g,go+j*2,none⟩=some (.string yp)/\W.cell? ⟨g,go+j*2+1,none⟩=some (.slice yd yn yc)) (go_keep) ((go_at_call 164;refine(SH.out _ (by exact(aaj _ _).drew)).mono ?_;rintro e w5 ⟨rfl,⟨k0,k1,k2,k3,k4⟩,H5⟩))
     all_goals (go_wp2_with fail;go_meet;exact⟨rfl,H5⟩)
    ·
     obtain⟨rfl,qA⟩:=hcut;cases B with
     | true=>
      have HN:Hid (okF o (ay.take (i+1))=true/\okF o (gone.take (i+1-ay.length))=true):=by
       have e9:i+1-ay.length=j+1:=by have:=Z.out;omega
       have e8:i-ay.length=j:=by have:=Z.out;omega
       have t:=H.out.2.1;rw[e8]at t;refine⟨?_,by rw[e9,DR.out,t];rfl⟩;have h7:=H.out.1;rw[aaP (by omega)]at h7 ⊢;exact h7
      clear H DR SH
      go_wp2_with fail
      go_roundw
      ·exact⟨i+1,h1,by go_num,HN.out.1,HN.out.2,qA.out⟩
      ·(simp[intOf];omega)
     | false=>
      have HN:Hid ((okF o ay&&okF o gone)=false):=by
       have e8:i-ay.length=j:=by have:=Z.out;omega
       have t:okF o gone=false:=by
        rw[acZ];intro Y;have h7:okF o (gone.take (j+1))=true:=by
         unfold okF at Y ⊢;rw[aeM]at Y ⊢;exact λf E=>Y f (ab4 E)
        have h6:=H.out.2.1;rw[e8]at h6;rw[DR.out,h6]at h7;cases h7
       show(_&&_)=false;rw[t];simp
      clear H DR SH
      go_wp2_with fail
      go_ret;exact HPF.out _ HN.out qA.out
  ·have gD:decide ((i:Int)<ay.length+(gone.length:Int))=false:=aab (by omega);have V5:Hid (okF o ay=true/\okF o gone=true):=by
    have t:=H.out.1;have Y:=H.out.2.1;rw[aaP (by omega)]at t Y;exact⟨t,Y⟩
   have oh:=aj H.out.2.2;have HGV:Hid (bl wr 0 ad ac G):=by
    obtain⟨EH,ac',e9,t⟩:=Av.out.given;simp only[abi]at e9;obtain⟨rfl,_,rfl⟩:=e9;exact t.below H.out.2.2
   have cp:=oh.out.size;obtain⟨i1,fC,cE,ch,cz⟩:=abF Tryz.kI;have Z:Hid (prog.info? 48=some i1/\i1.zero=some (.agg #[.string ByteArray.empty,.slice none 0 0])/\i1.size=2/\i1.bytes=40):=⟨fC,cE,ch,cz⟩;clear fC cE ch cz H RX;have Ue:=vx HGV.out;have acS:=aj Ue;clear Ue
   go_upto_region 14 with(at_builtin;refine fu rfl (.tmp 57) (.tmp 61) 37 rfl w.heap.size 48 i1 _ 2 40 abX Z.out.1 Z.out.2.1 Z.out.2.2.1 Z.out.2.2.2 rfl (by decide) (.slice none 0 0) 0 [] rfl (aaM _ _ _ _) 0 _ G.length (ax G) rfl HGV.out.row acS.out eI (by omega) cp ?_;intro v2 w2 aO bT;rw[acm,acp]at aO;obtain⟨ad2,Z0,rfl⟩:=ah aO;have H2:Hid (w2.ownsRow w.heap.size 48 2 (.slice ad2 G.length Z0) G.length (ax G)/\Below wr.heap.size wr w2):=⟨aO,iY bT⟩;clear aO bT)
   have mM:Hid (Below w.heap.size w w2):=oh.out.trans (H2.out.2.mono oh.out.size);have HCC:Hid (∀j u,(ax ay)[j]?=some u->∃AX,cd=some AX/\w2.cell? (AX.add j)=some u):=C4 (Vk.out.z.below mM.out);have Zt:Hid (∀u∈ax ay,u.oneCell'=true):=Ei Vk.out.z.each;have WT:Hid ((ax ay).length=ay.length*2):=aX ay;have EN:=mM.out.size
   go_cut [9]from 63 (λv9 wx=>∃td tc,v9=.slice td (G.length+ay.length) tc/\Hid (wx.ownsRow w.heap.size 48 2 (.slice td (G.length+ay.length) tc) (G.length+ay.length) (ax (G++ay))/\Below w.heap.size w wx))
   ·
    have Zc:Hid (ax (G++ay)=ax G++ax ay):=(by simp[ax]:ax (G++ay)=ax G++ax ay);cases cd with
    | none=>
     have h0:ay.length=0:=by
      rcases Nat.eq_zero_or_pos ay.length with h0 | h0
      ·exact h0
      ·obtain⟨AX,e,_⟩:=HCC.out 0 _ (AS (by rw[WT.out];omega));cases e
     have H00:=aj h0;have S0:Hid (w2.ownsRow w.heap.size 48 2 (.slice ad2 (G.length+ay.length) Z0) (G.length+ay.length) (ax (G++ay))):=by
      rw[h0,acV,abR h0,aby];exact H2.out.1
     clear h0
     go_wp2_with (at_builtin;refine qy rfl (.tmp 63) (.tmp 64) 37 rfl w.heap.size 48 i1 2 abX Z.out.1 (.slice ad2 G.length Z0) G.length (ax G) rfl H2.out.1 ay.length cc H00.out rfl ?_)
     go_meet;exact⟨ad2,Z0,by rw[H00.out,acV],S0.out,mM.out⟩
    | some AX=>
     go_wp2_with (at_builtin;refine dB rfl (.tmp 63) (.tmp 64) 37 rfl w.heap.size 48 i1 _ 2 40 abX Z.out.1 Z.out.2.1 Z.out.2.2.1 Z.out.2.2.2 rfl (by decide) (.slice ad2 G.length Z0) G.length (ax G) rfl H2.out.1 AX ay.length cc (ax ay) rfl WT.out (λj u hu=>by obtain⟨adS,e,t⟩:=HCC.out j u hu;cases e;exact t) Zt.out eI (by omega) EN ?_;intro v3 w3 cm dk;obtain⟨Za,ac3,rfl⟩:=ah cm;have H3:Hid (w3.ownsRow w.heap.size 48 2 (.slice Za (G.length+ay.length) ac3) (G.length+ay.length) (ax G++ax ay)/\Below w.heap.size w w3):=⟨cm,mM.out.grown dk EN (λq hq=>(H2.out.1.lt q hq).1)⟩;clear cm dk)
     go_meet;exact⟨Za,ac3,rfl,by rw[Zc.out];exact H3.out.1,H3.out.2⟩
   ·
    obtain⟨td,tc,rfl,H3⟩:=hcut;obtain⟨w1,rfl⟩:∃x,x=wc:=⟨wc,rfl⟩;clear H2 mM HCC Zt WT HGV acS oh cp EN;have Y8:Hid (∀W,Below w.heap.size w W->∀f,f∈G++ay->dr W f.av f.args):=by
     intro W A f E;rcases ZD.1 E with E | E
     ·obtain⟨_,_,_,t⟩:=Av.out.given;exact(xh (t.each f E)).below A
     ·exact(Vk.out.z.each f E).below A
    have HAZ:Hid (∀W,Below w1.heap.size w1 W->eV W td tc (G++ay)/\Below w.heap.size w W):=by
     intro W A;have zR:=H3.out.2.trans (A.mono H3.out.2.size);exact⟨Me (ae H3.out.1 A) (by simp) (Y8.out W zR),zR⟩
    have W8:Hid (∀W F I (l:List FI) (x:FI),eV W F I l->dr W x.av x.args->Calls prog 165 #[.slice F l.length I,.agg #[.string x.pred,x.av]] W λe w'=>e=.returned (.int .i64 (fS (l.map FI.f) x.f))/\Below W.heap.size W w'):=λW F I l x h1 h2=>CP W F I l h1 x.pred x.args x.av h2;have HAO:Hid (∀f,f∈G++ay->Rf.iR (rl.map QR.aw) f.f/\f.args.length<=1048576):=by
     intro f E;rcases ZD.1 E with E | E
     ·have t:=HDA.out.2.2.2 f E;have Y:=(pB HDA.out.1 t).2;exact⟨t,aaK Y (by omega)⟩
     ·have t:=V5.out.1;unfold okF at t;rw[aeM]at t;exact⟨HDA.out.2.1 _ _ (t f E),Vk.out.args f E⟩
    have HNZ:Hid (Rf.jV (gone.map FI.f) [] ((G++ay).map FI.f)=Rf.jV (gone.map FI.f) [] (G.map FI.f++ay.map FI.f)):=by
     show _=_;rw[aa6]
    have Kv:Hid ((G++ay).length=G.length+ay.length):=(by simp:(G++ay).length=G.length+ay.length);obtain⟨y,hAL⟩:∃y,y=G++ay:=⟨_,rfl⟩;rw[<-hAL]at Y8 HAZ HAO HNZ Kv;obtain⟨nA,hnA⟩:∃nA,nA=G.length+ay.length:=⟨_,rfl⟩;rw[<-hnA]at Kv ⊢;have vX:nA<=1100000:=by omega
    obtain⟨N,hN⟩:∃N,N=Rf.jV (gone.map FI.f) [] (G.map FI.f++ay.map FI.f):=⟨_,rfl⟩;rw[<-hN]at HNZ HPG;have HGD:Hid (∀W,Below w.heap.size w W->eV W gd gc gone):=λW A=>HZG.out.z.below A;clear hAL hnA hN H3
    go_wp2_with fail
    go_loopw [10,11] (λnv iv wq=>∃(i:Nat) (F:Option Addr) (I:Nat) (now:List FI),i<=nA/\iv=.int .i64 i/\nv=.slice F now.length I/\now.length<=i/\Hid (bl wq w1.heap.size F I now/\Rf.jV (gone.map FI.f) (now.map FI.f) ((y.map FI.f).drop i)=N/\(now.map FI.f).Nodup/\(∀f,f∈now->Rf.iR (rl.map QR.aw) f.f)/\Below w1.heap.size w1 wq)) (λ_ iv _=>nA-(intOf iv).toNat)
    ·exact⟨0,none,0,[],IS _,rfl,rfl,OF _,bl.nil _ _,HNZ.out,by simp,(λ_ h=>by cases h),aaj _ _⟩
    ·
     obtain⟨i,F,I,now,hi,rfl,rfl,arG,H⟩:=hrel;by_cases h1:i<nA
     ·have gD:decide ((i:Int)<nA)=true:=aap (by omega);have Lu:i<y.length:=by rw[Kv.out];exact h1
      obtain⟨g,go,Vd,hg,wQ,d0,d1⟩:=(HAZ.out wr H.out.2.2.2.2).1.at_ Lu;subst Vd;have hm:=IN Lu;obtain⟨yd,yc,hy⟩:=(Y8.out w (aaj _ _) _ hm).shape;have b1:(0:Int)<=(i:Int):=by omega
      have b2:(i:Int)<nA:=by omega
      have abA:nA<=tc:=by rw[<-Kv.out];exact wQ
      have Dx:Hid (∀W,Below wr.heap.size wr W->W.cell? ⟨g,go+i*2,none⟩=some (.string (y[i]).pred)/\W.cell? ⟨g,go+i*2+1,none⟩=some (y[i]).av/\g<W.heap.size):=λW A=>⟨by rw[A.cell hg];exact d0,by rw[A.cell hg];exact d1,aa7 hg A.size⟩;have ju:=(HAZ.out wr H.out.2.2.2.2).2;have Jf:Hid (Calls prog 165 #[.slice F now.length I,.agg #[.string (y[i]).pred,(y[i]).av]] wr λe w'=>e=.returned (.int .i64 (fS (now.map FI.f) (y[i]).f))/\(w'.cell? ⟨g,go+i*2,none⟩=some (.string (y[i]).pred)/\w'.cell? ⟨g,go+i*2+1,none⟩=some (y[i]).av/\g<w'.heap.size)/\Hid (Below wr.heap.size wr w')):=(W8.out wr F I now y[i] H.out.1.KM.r.z (Y8.out wr ju _ hm)).mono (λe w' h=>⟨h.1,Dx.out w' h.2,h.2⟩);have R4:Hid (∀W,Below wr.heap.size wr W->Calls prog 165 #[.slice gd gone.length gc,.agg #[.string (y[i]).pred,(y[i]).av]] W λe w'=>e=.returned (.int .i64 (fS (gone.map FI.f) (y[i]).f))/\(w'.cell? ⟨g,go+i*2,none⟩=some (.string (y[i]).pred)/\w'.cell? ⟨g,go+i*2+1,none⟩=some (y[i]).av/\g<w'.heap.size)/\Hid (Below wr.heap.size wr w')):=by
       intro W A;have zR:=ju.trans (A.mono ju.size);refine(W8.out W gd gc gone y[i] (HGD.out W zR) (Y8.out W zR _ hm)).mono ?_;rintro e w' ⟨rfl,D⟩;have iW:=A.trans (D.mono A.size);exact⟨rfl,Dx.out w' iW,iW⟩
      have tG:Hid (∀W,Below wr.heap.size wr W->Calls prog 168 #[.agg #[.string (y[i]).pred,(y[i]).av]] W λe w'=>∃bd bc,e=.returned (.agg #[.string (y[i]).pred,.slice bd (y[i]).args.length bc])/\w1.heap.size<=w'.heap.size/\Hid (bl w' w1.heap.size F I now/\w'.ownsRow w1.heap.size 9 1 (.slice bd (y[i]).args.length bc) (y[i]).args.length (strCells (y[i]).args)/\Below w1.heap.size w1 w')):=by
       intro W A;have zR:=ju.trans (A.mono ju.size);have Ay:=H.out.2.2.2.2.trans (A.mono H.out.2.2.2.2.size);refine(GL W _ _ _ (Y8.out W zR _ hm) (HAO.out _ hm).2).mono ?_;rintro e w' ⟨bd,bc,rfl,q1,q2⟩;have D:=Ay.trans (q2.mono Ay.size);exact⟨bd,bc,rfl,D.size,(H.out.1.below A).below q2,aD q1 Ay.size,D⟩
      have jX:Hid (((0<=fS (now.map FI.f) (y[i]).f\/0<=fS (gone.map FI.f) (y[i]).f)->Rf.jV (gone.map FI.f) (now.map FI.f) ((y.map FI.f).drop (i+1))=N)/\(fS (now.map FI.f) (y[i]).f<0->fS (gone.map FI.f) (y[i]).f<0->Rf.jV (gone.map FI.f) (now.map FI.f++[(y[i]).f]) ((y.map FI.f).drop (i+1))=N/\¬(y[i]).f∈now.map FI.f)):=by
       have AZ:∀(L:List En.ba) (f:En.ba),(fS L f<0↔¬f∈L):=by
        intro L f;by_cases hm:f∈L
        ·constructor
         ·intro t;unfold fS at t;rw[aa3 (Tb.bt.2 hm)]at t;omega
         ·exact λt=>absurd hm t
        ·rw[xV hm];exact⟨λ_=>hm,λ_=>by decide⟩
       have t:=H.out.2.1;rw[aan (by simpa using Lu),Rf.jV,adj]at t;refine⟨λhh=>?_,λk1 k2=>?_⟩
       ·rw[aa3 ?_]at t
        ·exact t
        ·rw[aeR,Tb.bt,Tb.bt];rcases hh with hh | hh
         ·exact .inl (Classical.not_not.1 (λe=>by have:=(AZ _ _).2 e;omega))
         ·exact .inr (Classical.not_not.1 (λe=>by have:=(AZ _ _).2 e;omega))
       ·have e1:=(AZ _ _).1 k1;have e2:=(AZ _ _).1 k2;rw[aaD ?_]at t
        ·exact⟨t,e1⟩
        ·rw[aeR,Tb.bt,Tb.bt];rintro(e | e)
         ·exact e1 e
         ·exact e2 e
      have Om:Hid (Rf.iR (rl.map QR.aw) (y[i]).f):=(HAO.out _ hm).1;have hsw:=H.out.2.2.2.2.size;rw[hy]at d1 Jf R4 tG;generalize fS (now.map FI.f) (y[i]).f=z1 at*;generalize fS (gone.map FI.f) (y[i]).f=z2 at*;generalize hX:y[i]=X at*;generalize We:X.pred=xp at*;generalize hxn:X.args.length=xn at*;have HXX:Hid (X.pred=xp/\X.args.length=xn):=⟨We,hxn⟩;clear hy hX We hxn hm Dx ju
      go_upto_region 20 with(go_at_call 165;refine Jf.out.mono ?_;rintro e w5 ⟨rfl,⟨k0,k1,k2⟩,H5⟩)
      go_upto_region 21 with(go_at_call 165;refine(R4.out _ H5.out).mono ?_;rintro e w6 ⟨rfl,⟨m0,m1,m2⟩,H6⟩)
      clear Jf R4 k0 k1 k2 d0 d1 hg;have uq:Hid (∀W,Below wr.heap.size wr W->bl W w1.heap.size F I now/\(now.map FI.f).Nodup/\(∀f,f∈now->Rf.iR (rl.map QR.aw) f.f)/\Below w1.heap.size w1 W):=λW A=>⟨H.out.1.below A,H.out.2.2.1,H.out.2.2.2.1,H.out.2.2.2.2.trans (A.mono H.out.2.2.2.2.size)⟩;by_cases ch:z1<0
      ·have e1:decide (z1<0)=true:=aap ch;by_cases cz:z2<0
       ·have e2:decide (z2<0)=true:=aap cz;have HN:=jX.out.2 ch cz;have HN':=aj HN;clear HN jX ch cz H
        go_wp2_with (first | (go_at_call 168;refine(tG.out _ H6.out).mono ?_;rintro e w7 ⟨bd,bc,rfl,hs7,H7⟩) | (at_builtin;refine abp _ rfl (.tmp 90) (.tmp 96) 37 rfl w1.heap.size 48 i1 _ 2 40 abX Z.out.1 Z.out.2.1 Z.out.2.2.1 Z.out.2.2.2 rfl (by decide) (.slice F now.length I) now.length (ax now) rfl (H7.out.1.row.alloc _) ⟨w7.heap.size,0,none⟩ 1 1 [.string xp,.slice bd xn bc] rfl rfl (abC (By _ _)) (by simp[Value.oneCell']) eI (by omega) (by simp;omega) ?_;intro v8 w8 F8 Dq _;obtain⟨nd8,nc8,rfl⟩:=ah F8;have H8:Hid (bl w8 w1.heap.size nd8 nc8 (now++[⟨xp,X.args,.slice bd xn bc⟩])/\Below w1.heap.size w1 w8):=Bh H7.out HXX.out Dq F8;clear F8 Dq))
        go_roundw
        ·
         have hlen:(now++[(⟨xp,X.args,.slice bd xn bc⟩:FI)]).length=now.length+1:=by simp
         have Ve:(⟨xp,X.args,.slice bd xn bc⟩:FI).f=X.f:=by
          unfold FI.f;rw[HXX.out.1]
         obtain⟨_,n2,n3,_⟩:=uq.out wr (aaj _ _);refine⟨i+1,nd8,nc8,now++[⟨xp,X.args,.slice bd xn bc⟩],h1,by go_num,by rw[hlen],by omega,H8.out.1, ?_, ?_, ?_,H8.out.2⟩
         ·rw[aa6,abn,adp,Ve];exact HN'.out.1
         ·rw[aa6,abn,adp,Ve,adn];refine⟨n2,by simp, ?_⟩;intro a ha b D e;simp at D;rw[e,D]at ha;exact HN'.out.2 ha
         ·intro f E;rcases ZD.1 E with E | E
          ·exact n3 f E
          ·simp only[BY,acC,aeH]at E;rw[E,Ve];exact Om.out
        ·(simp[intOf];omega)
       ·have e2:decide (z2<0)=false:=aab cz;have HN:Hid (Rf.jV (gone.map FI.f) (now.map FI.f) ((y.map FI.f).drop (i+1))=N):=jX.out.1 (.inr (by omega));clear jX ch cz H tG
        go_wp2_with fail
        go_roundw
        ·
         obtain⟨n1,n2,n3,n4⟩:=uq.out w6 H6.out;exact⟨i+1,F,I,now,h1,by go_num,rfl,by omega,n1,HN.out,n2,n3,n4⟩
        ·(simp[intOf];omega)
      ·have e1:decide (z1<0)=false:=aab ch;have HN:Hid (Rf.jV (gone.map FI.f) (now.map FI.f) ((y.map FI.f).drop (i+1))=N):=jX.out.1 (.inl (by omega));clear jX ch H tG
       go_wp2_with fail
       go_roundw
       ·
        obtain⟨n1,n2,n3,n4⟩:=uq.out w6 H6.out;exact⟨i+1,F,I,now,h1,by go_num,rfl,by omega,n1,HN.out,n2,n3,n4⟩
       ·(simp[intOf];omega)
     ·have gD:decide ((i:Int)<nA)=false:=aab (by omega);have NH:Hid (now.map FI.f=N):=by
       have t:=H.out.2.1;rw[abG (by rw[aaL,Kv.out];omega)]at t;exact t
      obtain⟨Xi,ju⟩:=HAZ.out wr H.out.2.2.2.2;obtain⟨c0,c1,c2,c3,qC⟩:=HC.out wr ju;have lF:=aj ju;have HNW:=aj H.out.1;have Eu:Hid (w.heap.size<=w1.heap.size):=(HAZ.out w1 (aaj _ _)).2.size;have Zi:Hid (Calls prog 86 #[.agg #[.slice rd rl.length rc,.slice J o.length O,.string pl],.slice F now.length I,.string ⟨#[]⟩] wr λe w'=>∃pv,e=.returned (.pointer pv)/\Hid (oQ wr w1.heap.size (rl.map QR.aw) (.slice rd rl.length rc) (.slice J o.length O) pl F I now ⟨#[]⟩ (.returned (.pointer pv)) w')):=by
       obtain⟨rd',rc',e9,t⟩:=Av.out.rules;simp only[abi]at e9;obtain⟨rfl,_,rfl⟩:=e9;refine(GC wr rd rc rl (t.below ju) HDA.out.1 J o.length O pl F I now w1.heap.size H.out.2.2.2.2.size H.out.1 H.out.2.2.1 H.out.2.2.2.1 ⟨#[]⟩).mono ?_;intro e w' hp;have hpv:∃pv,e=.returned (.pointer pv):=by
        have t:=hp.2;split at t
        ·exact⟨none,t⟩
        ·obtain⟨rg,_,_,_,_,Y,_⟩:=t;exact⟨_,Y⟩
       obtain⟨pv,rfl⟩:=hpv;exact⟨pv,rfl,hp⟩
      clear H Xi ju W8 HGD
      go_upto_region 24 with(go_at_call 86;refine Zi.out.mono ?_;rintro e w9 ⟨pv9,rfl,H9⟩)
      clear Zi c0 c1 c2 c3 qC;rcases hF:(if 40<now.length then none else Rf.tN (rl.map QR.aw) 300 (now.map FI.f) true [])with _ | M
      ·have t:=H9.out.2;simp only[hF]at t;obtain rfl:pv9=none:=by simpa using t
       have HPX:Hid (ie w rg rl o pl (G.map FI.f) bs (.slice rd rl.length rc) (.slice J o.length O) ay gone L (.returned (.int .i64 7)) w9):=by
        refine HPG.out _ _ V5.out.1 V5.out.2 ?_;rw[<-NH.out,aaL,hF];exact⟨rfl,lF.out.trans (H9.out.1.mono lF.out.size)⟩
       clear t hF H9
       go_wp2_with fail
       go_ret;exact HPX.out
      ·have t:=H9.out.2;simp only[hF]at t;obtain⟨xg,md,mc,yS,cv9,e1,e2,e3,e4,e5,e6⟩:=t;obtain rfl:pv9=some ⟨xg,0,none⟩:=by simpa using e1
       have tH:Below w.heap.size w w9:=lF.out.trans (H9.out.1.mono lF.out.size);have hr9:=(tH.block _ (lt_of_heap Av.out.aY)).trans Av.out.aY;have cB:rg≠xg:=by
        have:=lt_of_heap Av.out.aY;have:=lF.out.size;omega
       have Tl:xg≠rg:=Ne.symm cB;obtain⟨_,_,_,x3,x4,x5,_,_,_,nP⟩:=iA e3;obtain⟨_,_,_,r3,r4,r5,_,_,rf,qC⟩:=iA hr9;have rf3:=rf 3;have rf4:=rf 4;have rf5:=rf 5;obtain⟨cd9,cc9,agJ⟩:=ah e6;subst agJ;obtain⟨SN,SC⟩:∃SN,SN=((w9.setCell ⟨rg,3,none⟩ (.slice F now.length I)).setCell ⟨rg,4,none⟩ (.slice md yS.length mc)).setCell ⟨rg,5,none⟩ (.slice cd9 yS.length cc9):=⟨_,rfl⟩;have hblk:SN.heap[rg]?=some (.cells (dN (.slice rd rl.length rc) (.slice J o.length O) pl (.slice F now.length I) (.slice md yS.length mc) (.slice cd9 yS.length cc9) bs hd) 269 (0,0)):=by
        have h1:=heap_setCell_same (off:=3) hr9 (.slice F now.length I);have h2:=heap_setCell_same (off:=4) h1 (.slice md yS.length mc);have h3:=heap_setCell_same (off:=5) h2 (.slice cd9 yS.length cc9);rw[SC,h3];rfl
       have kJ:Kb [rg] w9 SN:=by
        rw[SC];exact((Kb.setCell w9 ⟨rg,3,none⟩ _).trans (Kb.setCell _ ⟨rg,4,none⟩ _)).trans (Kb.setCell _ ⟨rg,5,none⟩ _)
       obtain⟨z1,z2,z3,z4⟩:=HZ0.out;have cq:Below w0.heap.size w0 SN:=by
        have Y:=z3.trans (tH.mono z3.size);exact kJ.aQ Y Y.size (by simpa using z4)
       have U8:ay.length<=64/\gone.length<=64:=by omega
       have HNT:Hid (Calls prog 169 #[.pointer (some ⟨rg,0,none⟩),.slice cd ay.length cc,.slice gd gone.length gc] SN λe w'=>e=.returned (.tuple #[])/\Hid (∃vN ox:ByteArray,w'.heap[rg]?=some (.cells (dN (.slice rd rl.length rc) (.slice J o.length O) pl (.slice F now.length I) (.slice md yS.length mc) (.slice cd9 yS.length cc9) vN ox) 269 (0,0))/\ox.size=32/\vN.size<=bs.size+2*L+50/\Kb [rg] SN w')):=(Ia SN rg pl bs hd hblk cd cc ay gd gc gone (z1.z.below cq) (z2.z.below cq) L hL (HLB.out.1 V5.out.1 U8.1) (HLB.out.2 V5.out.2 U8.2) (by omega) (by omega) D hh).mono (λe w' h=>⟨h.1,h.2⟩);have WO:Hid (∀ZX (vN ox:ByteArray),ZX.heap[rg]?=some (.cells (dN (.slice rd rl.length rc) (.slice J o.length O) pl (.slice F now.length I) (.slice md yS.length mc) (.slice cd9 yS.length cc9) vN ox) 269 (0,0))->ox.size=32->vN.size<=bs.size+2*L+50->Kb [rg] SN ZX->ie w rg rl o pl (G.map FI.f) bs (.slice rd rl.length rc) (.slice J o.length O) ay gone L (.returned (.int .i64 0)) ZX):=by
        intro ZX vN ox q1 q2 q3 q4;have hk:=kJ.trans q4;have U3:∀b,b∈[rg]->∀V U fz,w9.heap[b]?=some (.cells V U fz)->U=269:=by
         intro b D V U fz e;simp at D;subst D;rw[hr9]at e;simp at e;exact e.2.1.symm
        obtain⟨rd',rc',e9,g1⟩:=Av.out.rules;simp only[abi]at e9;obtain⟨rfl,_,rfl⟩:=e9;obtain⟨pd',pc',e9,g2⟩:=Av.out.lj;simp only[abi]at e9;obtain⟨rfl,_,rfl⟩:=e9;have g3:=HNW.out.below H9.out.1;refine HPG.out _ _ V5.out.1 V5.out.2 ?_;rw[<-NH.out,aaL,hF];refine⟨rfl,(Kb.bD tH [rg]).trans hk,now,yS,vN,ox,_,_,_,⟨q1,⟨rd,rc,rfl,(g1.below tH).kb hk (λb D V U fz e=>by rw[U3 b D V U fz e];decide)⟩,⟨J,O,rfl,hk.aR (ae g2 tH) (λb V fz D e=>by have:=U3 b D _ _ _ e;revert this;decide)⟩,⟨F,I,rfl,(g3.kb hk (λb D _ V U fz e=>by rw[U3 b D V U fz e];decide)).base (IS _)⟩,⟨md,mc,rfl,(e4.kb hk (λb D _ V U fz e=>by rw[U3 b D V U fz e];decide)).base (IS _)⟩, ?_⟩,rfl,e5,q2,q3, ?_,λq hq=>hq.elim (λh=>aaK Eu.out (HNW.out.row.lt q h).1) (λh=>aaK Eu.out (e4.row.lt q h).1)⟩
        ·rw[e5];exact aD (hk.aR e6 (λb V fz D e=>by have:=U3 b D _ _ _ e;revert this;decide)) (IS _)
        ·have h7:=Eu.out;rintro f (E | E) q hq
         ·exact aaK h7 ((HNW.out.each f E).lt q hq).1
         ·exact aaK h7 ((e4.each f E).lt q hq).1
       clear hF H9 e1 e2 e3 e4 e5 e6 tH hr9 rf kJ hblk z1 z2 z3 z4 cq U8
       go_upto_region 29 with fail
       rw[<-SC];clear SC
       go_wp2_with (go_at_call 169;refine HNT.out.mono ?_;rintro e ZX ⟨rfl,H11⟩)
       go_ret;obtain⟨vN,ox,q1,q2,q3,q4⟩:=H11.out;exact WO.out _ vN ox q1 q2 q3 q4
variable{D:List En.ba}{F:List FI}{k i j n gc:Nat}{gd:Option Addr}{w W:World}
namespace Lw
def bh(k:Nat):ByteArray:=(⟨#[98,101,104,105,110,100]⟩:ByteArray)++⟨(Lib.decDigits k).toArray⟩
def Po:List ByteArray:=(List.range 8).map bh
theorem wy:Po.length=8:=by simp[Po]
def jo(a:List ByteArray)(k:Nat):List Value:=strCells (a++Po.take k++List.replicate (8-k) ByteArray.empty)
theorem yN(a)(e:k<=8):(jo a k).length=a.length+8:=by
 unfold jo strCells;rw[aaL,If,If,abv,wy,ad9];omega
theorem P2(a)(i:k<8):(jo a k).set (a.length+k) (.string (bh k))=jo a (k+1):=by
 unfold jo;have q:Po.take (k+1)=Po.take k++[bh k]:=by
  rw[aaZ,AS (by rw[wy];exact i)];simp[Po]
 have j:List.replicate (8-k) ByteArray.empty=ByteArray.empty::List.replicate (8-(k+1)) ByteArray.empty:=by
  rw[show 8-k=(8-(k+1))+1 by omega];rfl
 have e:(strCells (a++Po.take k)).length=a.length+k:=by
  unfold strCells;rw[aaL,If,abv,wy];omega
 have e3:∀x y:List ByteArray,strCells (x++y)=strCells x++strCells y:=λx y=>by simp[strCells]
 rw[e3 (a++Po.take k),ab9 _ _ (by rw[e];exact OF _),e,aew,j,q,<-aa8,e3 (a++Po.take k++[bh k]),e3 (a++Po.take k) [bh k],aa8];rfl
end Lw
def FI.whole(f:FI):Value:=match f.av with | .slice d _ c=>.slice d c c | v=>v
structure NM(w W:World)(nb fb n:Nat)(D:List En.ba)(F:List FI)(gd:Option Addr)(gc:Nat):Prop where
 aY:W.heap[nb]?=some (.cells #[.slice (some ⟨fb,0,none⟩) (n+8) (n+8),.slice gd F.length gc] 192 (0,0))
 xN:W.heap[fb]?=some (.cells (ax F++gC (n+8-F.length)).toArray 48 (0,0))
 each:∀f,f∈F->∃ab,f.av=.slice (some ⟨ab,0,none⟩) f.args.length (f.args.length+8)/\w.heap.size<=ab/\W.heap[ab]?=some (.cells (Lw.jo f.args 8).toArray 9 (0,0))
 row:W.ownsRow w.heap.size 46 1 (.slice gd F.length gc) F.length (F.map FI.whole)
 data:F.map FI.f=D
 apart:F.Pairwise λa b=>∀q,a.av.ownBlock=some q->b.av.ownBlock≠some q
 be:Below w.heap.size w W
 ge:w.heap.size<=nb/\w.heap.size<=fb
theorem NM.below{W'}(h:NM w W i j n D F gd gc)(e:Below W.heap.size W W'):NM w W' i j n D F gd gc:=by
 refine⟨(e.block _ (lt_of_heap h.aY)).trans h.aY,(e.block _ (lt_of_heap h.xN)).trans h.xN,λf q=>?_,ae h.row e,h.data,h.apart,h.be.trans (e.mono h.be.size),h.ge⟩;obtain⟨x,u,t,e3⟩:=h.each f q;exact⟨x,u,t,(e.block _ (lt_of_heap e3)).trans e3⟩
theorem M1(n)(h:n<=10000000):∃M:Array Value,M.toList=strCells (List.replicate n ByteArray.empty)/\∀W:World,(Instr.makeSlice 46 (.int .i64 (n:Int)) (.int .i64 (n:Int))).run prog W=.ok (.slice (some ⟨W.heap.size,0,none⟩) n n) (W.alloc (.cells M 9)):=by
 obtain⟨i,j,u,t,q⟩:=abF Tryz.jC;refine⟨madeCells #[Value.string ByteArray.empty] n, ?_,λW=>?_⟩
 ·unfold madeCells;refine aeL (by simp[strCells]) ?_;intro k x w;simp[strCells,Nat.mod_one]
 ·have h:=run_make (P:=prog) W 46 9 i (.string ByteArray.empty) ab2 j u .i64 .i64 (n:Int) (n:Int) (by omega) (by omega) (by rw[q];omega) (by omega);rw[t]at h;have e:(Value.string ByteArray.empty).cells=#[Value.string ByteArray.empty]:=rfl;rw[e]at h;simpa using h
theorem JP(n)(h:n<=10000000):∃M:Array Value,M.toList=gC n/\∀W:World,(Instr.makeSlice 37 (.int .i64 (n:Int)) (.int .i64 (n:Int))).run prog W=.ok (.slice (some ⟨W.heap.size,0,none⟩) n n) (W.alloc (.cells M 48)):=by
 obtain⟨i,j,u,t,q⟩:=abF Tryz.kI;refine⟨madeCells #[Value.string ByteArray.empty,.slice none 0 0] (n*2),zN n,λW=>?_⟩;have h:=run_make (P:=prog) W 37 48 i _ abX j u .i64 .i64 (n:Int) (n:Int) (by omega) (by omega) (by rw[q];omega) (by omega);rw[t]at h;have e:(Value.agg #[Value.string ByteArray.empty,.slice none 0 0]).cells=#[Value.string ByteArray.empty,.slice none 0 0]:=rfl;rw[e]at h;simpa using h
/- axiomlaw: lend, walked. -/
theorem NM.step{y u E H I A p o}(h:NM w W u j n D F gd gc)(sS:W.heap[E]?=some (.cells (Lw.jo A 8).toArray 9 (0,0)))(vu:w.heap.size<=E)(Im:∀f,f∈F->(FI.av f).ownBlock≠some E)(aL:F.length<n+8)(hg:(W.alloc o).grownBy y (Value.slice gd F.length gc).ownBlock)(hr:y.ownsRow w.heap.size 46 1 (.slice H (F.length+1) I) (F.length+1) (F.map FI.whole++[.slice (some ⟨E,0,none⟩) (A.length+8) (A.length+8)])):
 y.heap[u]?=some (.cells #[.slice (some ⟨j,0,none⟩) (n+8) (n+8),.slice gd F.length gc] 192 (0,0))/\(y.setCell ⟨u,1,none⟩ (.slice H (F.length+1) I)).heap[j]?=some (.cells (ax F++gC (n+8-F.length)).toArray 48 (0,0))/\NM w (((y.setCell ⟨u,1,none⟩ (.slice H (F.length+1) I)).setCell ⟨j,F.length*2,none⟩ (.string p)).setCell ⟨j,F.length*2+1,none⟩ (.slice (some ⟨E,0,none⟩) A.length (A.length+8))) u j n (D++[(p,A)]) (F++[⟨p,A,.slice (some ⟨E,0,none⟩) A.length (A.length+8)⟩]) H I:=by
 have V:Below W.heap.size W (W.alloc o):=aM;have Ea:=ae h.row V;have ako:=au Ea;have O:∀{b:Nat} {x:Array Value} {t:TypeId},W.heap[b]?=some (.cells x t (0,0))->t≠46->y.heap[b]?=some (.cells x t (0,0)):=by
  intro b x t J ht;have iW:=(V.block _ (lt_of_heap J)).trans J;rw[hg.block _ (lt_of_heap iW) ?_]
  ·exact iW
  ·grind
 have n2:=O h.aY (by decide);have f2:=O h.xN (by decide);have Z:u≠j:=fM h.aY h.xN;have n3:=heap_setCell_same (off:=1) n2 (.slice H (F.length+1) I);have Y:(y.setCell ⟨u,1,none⟩ (.slice H (F.length+1) I)).heap[j]?=some (.cells (ax F++gC (n+8-F.length)).toArray 48 (0,0)):=(abO _ _ _ _ (Ne.symm Z)).trans f2;refine⟨n2,Y, ?_⟩;have k1:=Kb.setCell y ⟨u,1,none⟩ (.slice H (F.length+1) I);have k2:=Kb.setCell (y.setCell ⟨u,1,none⟩ (.slice H (F.length+1) I)) ⟨j,F.length*2,none⟩ (.string p);have k3:=Kb.setCell ((y.setCell ⟨u,1,none⟩ (.slice H (F.length+1) I)).setCell ⟨j,F.length*2,none⟩ (.string p)) ⟨j,F.length*2+1,none⟩ (.slice (some ⟨E,0,none⟩) A.length (A.length+8));have U:Kb [u,j] y _:=((k1.mono (S':=[u,j]) (λi B _=>by simp at B;simp[B])).trans (k2.mono (λi B _=>by simp at B;simp[B]))).trans (k3.mono (λi B _=>by simp at B;simp[B]));have wF:∀{b:Nat} {x:Array Value} {t:TypeId},y.heap[b]?=some (.cells x t (0,0))->t≠192->t≠48->¬b∈[u,j]:=by grind
 have hlen:(F++[(⟨p,A,.slice (some ⟨E,0,none⟩) A.length (A.length+8)⟩:FI)]).length=F.length+1:=by simp
 refine⟨?_, ?_, ?_, ?_, ?_, ?_, ?_,h.ge⟩
 ·rw[abO _ _ _ _ Z,abO _ _ _ _ Z,n3,hlen];rfl
 ·rw[show n+8-F.length=(n+8-F.length-1)+1 by omega,ij]at Y;rw[aC _ (aC _ Y (F.length*2) (.string p)) (F.length*2+1) _];congr 2;rw[IT,IT];congr 1;rw[ab9 _ _ (by rw[aX];omega),aX,aew,aaE,ab9 _ _ (by rw[aX];omega),aX];rw[show F.length*2+1-F.length*2=1 by omega,aaH,aaE,hlen,show n+8-(F.length+1)=n+8-F.length-1 by omega,sV];simp
 ·intro f M;rcases ZD.1 M with M | M
  ·obtain⟨q,e1,e2,e3⟩:=h.each f M;have N:=O e3 (by decide);exact⟨q,e1,e2,U.heap N (wF N (by decide) (by decide))⟩
  ·simp only[aae]at M;subst M;have N:=O sS (by decide);exact⟨E,rfl,vu,U.heap N (wF N (by decide) (by decide))⟩
 ·rw[hlen,aa6];exact U.aR hr (λb x fz J e=>by
   simp only[BY,acC,aeH]at J;rcases J with rfl | rfl
   ·rw[n2]at e;simp at e
   ·rw[f2]at e;simp at e)
 ·rw[aa6,h.data];rfl
 ·refine acO.2 ⟨h.apart,List.pairwise_singleton _ _,λa V b J q X=>?_⟩;simp only[aae]at J;subst J;intro e;simp only[Value.ownBlock,AT]at e;subst e;exact Im a V X
 ·have cX:Below w.heap.size w y:=(h.be.alloc h.be.size o).grown hg (by have:=h.be.size;simp;omega) (λq X=>(h.row.lt q X).1);exact U.aQ cX cX.size (λi B=>by
   simp only[BY,acC,aeH]at B;rcases B with rfl | rfl
   ·exact h.ge.1
   ·exact h.ge.2)
theorem M8{d c A M}(I:dr W (.slice d A.length c) A)(w:M.toList=strCells (List.replicate (A.length+8) ByteArray.empty))(u:W.heap[i]?=some (.cells M 9 (0,0))):
 ∃W',(∀q,(Builtin.copy_ #[46,46] q #[.slice (some ⟨i,0,none⟩) (A.length+8) (A.length+8),.slice d A.length c]).run prog W=.ok (.int .i64 A.length) W')/\W'.heap[i]?=some (.cells (Lw.jo A 0).toArray 9 (0,0))/\∀base,base<=i->base<=W.heap.size->Below base W W':=by
 have t:(strCells A).length=A.length:=by simp[strCells]
 have B:Lw.jo A 0=strCells A++strCells (List.replicate 8 ByteArray.empty):=by simp[Lw.jo,strCells]
 have U:strCells (List.replicate (A.length+8) ByteArray.empty)=strCells (List.replicate A.length ByteArray.empty)++strCells (List.replicate 8 ByteArray.empty):=by
  rw[<-List.replicate_append_replicate];unfold strCells;rw[aa6]
 have N:M.size=A.length+8:=by rw[<-abP,w];simp[strCells]
 have E:=vy I;obtain⟨X,D,_,F,_⟩:=abF Tryz.jC;cases d with
 | none=>
  have O:A=[]:=by
   cases A with
   | nil=>rfl
   | cons a A=>
    obtain⟨H,e,_⟩:=E 0 _ (AS (by rw[t];simp));cases e
  subst O;refine⟨W,λq=>?_, ?_,λbase _ _=>aaj _ _⟩
  ·simp[Builtin.copy_,acQ ab2,Builtin.lenOf,Builtin.firstCells,sizeOf,typeInfo,D,F,storeCells,goInt]
  ·rw[u,B];have y:M=(strCells []++strCells (List.replicate 8 ByteArray.empty)).toArray:=by rw[<-B,<-Array.toArray_toList (xs:=M),w];rfl
   rw[y]
 | some H=>
  refine⟨W.setRow i (Lw.jo A 0).toArray,λq=>?_,bQ _ _ u,λbase h1 Z=>?_⟩
  ·have x:=fH prog W 46 46 q 9 i 0 (A.length+8) (A.length+8) H A.length c M 9 (strCells A) 1 A.length ab2 (by rw[D];simp[F]) u (by simp only[Nat.min_def];split<;>omega) (by rw[t,Nat.mul_one]) (λj v J=>by obtain⟨V,e,x⟩:=E j v J;cases e;exact x) (by omega) (ku A);have y:M.toList.take 0++strCells A++M.toList.drop (0+(strCells A).length)=Lw.jo A 0:=by
    rw[B,List.take_zero,acp,w,U,acm,t,List.drop_append_of_le_length (by simp[strCells]),abG (by simp[strCells]),acp]
   rw[x,y];rfl
  ·exact⟨rfl,rfl,rfl,by simp,λk Y=>setRow_other _ _ _ _ (by omega)⟩
def Lw.R6(k:Nat):List Value:=(List.range 8).flatMap λi=>[.string (if i<k then Lw.bh i else ByteArray.empty),.slice none 0 0]
theorem Lw.Tp:∀k,k<8->((Lw.R6 k).set (k*2) (.string (Lw.bh k))).set (k*2+1) (.slice none 0 0)=Lw.R6 (k+1)
 | 0,_=>rfl
 | 1,_=>rfl
 | 2,_=>rfl
 | 3,_=>rfl
 | 4,_=>rfl
 | 5,_=>rfl
 | 6,_=>rfl
 | 7,_=>rfl
 | n+8,h=>by omega
theorem Lw.CK(k):(Lw.R6 k).length=16:=rfl
structure mS(w W:World)(nb fb:Nat)(F:List FI)(gd:Option Addr)(gc k:Nat):Prop where
 aY:W.heap[nb]?=some (.cells #[.slice (some ⟨fb,0,none⟩) (F.length+8) (F.length+8),.slice gd F.length gc] 192 (0,0))
 xN:W.heap[fb]?=some (.cells (ax F++Lw.R6 k).toArray 48 (0,0))
 each:∀f,f∈F->∃ab,f.av=.slice (some ⟨ab,0,none⟩) f.args.length (f.args.length+8)/\w.heap.size<=ab/\W.heap[ab]?=some (.cells (Lw.jo f.args 8).toArray 9 (0,0))
 row:W.ownsRow w.heap.size 46 1 (.slice gd F.length gc) F.length (F.map FI.whole)
 apart:F.Pairwise λa b=>∀q,a.av.ownBlock=some q->b.av.ownBlock≠some q
 be:Below w.heap.size w W
 ge:w.heap.size<=nb/\w.heap.size<=fb
theorem NM.lnB{e}(h:NM w W e i n D F gd gc)(j:F.length=n):mS w W e i F gd gc 0:=by
 subst j;refine⟨h.aY, ?_,h.each,h.row,h.apart,h.be,h.ge⟩;rw[h.xN,show F.length+8-F.length=8 by omega];rfl
theorem mS.drew{e}(h:mS w W e i F gd gc k):mS w W.drew e i F gd gc k:=⟨h.aY,h.xN,h.each,ae h.row (aaj _ _).drew,h.apart,h.be.drew,h.ge⟩
theorem mS.step{u}(h:mS w W u j F gd gc k)(B:k<8):mS w ((W.setCell ⟨j,(F.length+k)*2,none⟩ (.string (Lw.bh k))).setCell ⟨j,(F.length+k)*2+1,none⟩ (.slice none 0 0)) u j F gd gc (k+1):=by
 have M:u≠j:=fM h.aY h.xN;have A:=Kb.setCell W ⟨j,(F.length+k)*2,none⟩ (.string (Lw.bh k));have y:=Kb.setCell (W.setCell ⟨j,(F.length+k)*2,none⟩ (.string (Lw.bh k))) ⟨j,(F.length+k)*2+1,none⟩ (.slice none 0 0);have t:Kb [j] W _:=(A.mono (S':=[j]) (λi q _=>by simpa using q)).trans (y.mono (λi q _=>by simpa using q));refine⟨t.heap h.aY (by simpa using M), ?_, ?_, ?_,h.apart, ?_,h.ge⟩
 ·rw[aC _ (aC _ h.xN ((F.length+k)*2) (.string (Lw.bh k))) ((F.length+k)*2+1) _];congr 2;rw[IT,IT];congr 1;rw[ab9 _ _ (by rw[aX];omega),aX,ab9 _ _ (by rw[aX];omega),aX,show(F.length+k)*2-F.length*2=k*2 by omega,show(F.length+k)*2+1-F.length*2=k*2+1 by omega,Lw.Tp k B]
 ·intro f D;obtain⟨J,H,E,e3⟩:=h.each f D;refine⟨J,H,E,t.heap e3 ?_⟩;simp only[aae];rintro rfl;rw[h.xN]at e3;simp at e3
 ·exact t.aR h.row (λb I fz x e=>by
   simp only[aae]at x;subst x;rw[h.xN]at e;simp at e)
 ·exact t.aQ h.be h.be.size (λi q=>by
   simp only[aae]at q;subst q;exact h.ge.2)
/- axiomlaw: lend, walked. -/
theorem Tryz.BP:(prog.info? 46).map (λi=>(i.zero,i.size,i.bytes))=some (some (.slice none 0 0),1,24):=by kernel_rfl
theorem wE:∀j,j<8->(Lib.decDigits j).length=1
 | 0,_=>by kernel_rfl
 | 1,_=>by kernel_rfl
 | 2,_=>by kernel_rfl
 | 3,_=>by kernel_rfl
 | 4,_=>by kernel_rfl
 | 5,_=>by kernel_rfl
 | 6,_=>by kernel_rfl
 | 7,_=>by kernel_rfl
 | n+8,h=>by omega
theorem yV(w ld lc l)(hz:eV w ld lc l)(hl:l.length<=1048576)(ha:∀f,f∈l->f.args.length<=1048576):
 Calls prog 92 #[.slice ld l.length lc] w λe w'=>∃x t F gd gc,e=.returned (.pointer (some ⟨x,0,none⟩))/\mS w w' x t F gd gc 8/\F.map FI.f=l.map FI.f:=by
 obtain⟨Z,hMF,rW⟩:=JP (l.length+8) (by omega);have Q4:∀W:World,(Instr.makeSlice 37 (.int .i64 ((l.length:Int)+8)) (.int .i64 ((l.length:Int)+8))).run prog W=.ok (.slice (some ⟨W.heap.size,0,none⟩) (l.length+8) (l.length+8)) (W.alloc (.cells Z 48)):=λW=>by
  have D:=rW W;rw[show((l.length+8:Nat):Int)=(l.length:Int)+8 by omega]at D;exact D
 have TO:IntKind.i64.wrap ((l.length:Int)+8)=(l.length:Int)+8:=by rw[aaR];omega
 have HMF:=aj hMF;have HZ:=aj hz;have HA:=aj ha;clear rW hMF hz ha
 go_enter func92,ntmps92
 go_upto_region 2 with fail
 obtain⟨w1,dA⟩:∃w1,w1=(w.alloc (.cells Z 48)).alloc (.cells #[.slice (some ⟨w.heap.size,0,none⟩) (l.length+8) (l.length+8),.slice none 0 0] 192):=⟨_,rfl⟩;have H1:Hid (NM w w1 (w.heap.size+1) w.heap.size l.length ((l.map FI.f).take 0) [] none 0):=by
  have e1:=By (w.alloc (.cells Z 48)) (.cells #[.slice (some ⟨w.heap.size,0,none⟩) (l.length+8) (l.length+8),.slice none 0 0] 192);rw[show(w.alloc (.cells Z 48)).heap.size=w.heap.size+1 by simp,<-dA]at e1;have e2:w1.heap[w.heap.size]?=some (.cells Z 48 (0,0)):=by
   rw[dA,aay _ _ _ (by simp)];exact By w _
  have e3:Z=(ax []++gC (l.length+8-0)).toArray:=by
   rw[<-Array.toArray_toList (xs:=Z),HMF.out];rfl
  rw[e3]at e2;refine⟨e1,e2,(λf hf=>by cases hf),aaM _ _ _ _,rfl,List.Pairwise.nil, ?_,aej _,OF _⟩;rw[dA];exact aM.alloc (by simp) _
 rw[<-dA];clear dA Q4 TO HMF;obtain⟨x,qt⟩:∃x,x=w.heap.size+1:=⟨_,rfl⟩;obtain⟨t,MJ⟩:∃t,t=w.heap.size:=⟨_,rfl⟩;rw[<-qt,<-MJ];rw[<-qt,<-MJ]at H1;have Qb:w.heap.size<=t/\w.heap.size<=x:=by omega
 clear qt MJ
 go_wp2_with fail
 go_loopw [4] (λi wr=>∃k:Nat,k<=l.length/\i=.int .i64 k/\∃F gd gc,Hid (F.length=k/\NM w wr x t l.length ((l.map FI.f).take k) F gd gc)) (λi _=>l.length-(intOf i).toNat)
 ·exact⟨0,IS _,rfl,[],none,0,rfl,H1.out⟩
 ·
  rename World=>wo;obtain⟨k,hk,rfl,F,gd,gc,B⟩:=hrel;clear H1;by_cases Y:k<l.length
  ·have gD:decide ((k:Int)<l.length)=true:=aap (by omega);obtain⟨g,o,rfl,-,U8,-,-⟩:=(HZ.out.below B.out.2.be).at_ Y;obtain⟨ad,ac,nw⟩:=(HZ.out.each _ (IN Y)).shape;have lF:Hid (∀W,Below wo.heap.size wo W->Below w.heap.size w W):=λW hW=>B.out.2.be.trans (hW.mono B.out.2.be.size);have HC:Hid (∀W,Below w.heap.size w W->g<W.heap.size/\W.cell? ⟨g,o+k*2,none⟩=some (.string (l[k]).pred)/\W.cell? ⟨g,o+k*2+1,none⟩=some (.slice ad (l[k]).args.length ac)):=by
    intro W hW;obtain⟨g',o',e,h1,_,h2,h3⟩:=(HZ.out.below hW).at_ Y;cases e;rw[nw]at h3;exact⟨h1,h2,h3⟩
   have B7:Hid (∀W,Below w.heap.size w W->dr W (.slice ad (l[k]).args.length ac) (l[k]).args):=by
    intro W hW;rw[<-nw];exact(HZ.out.below hW).each _ (IN Y)
   have C5:=HA.out _ (IN Y);have tL:Hid ((l.map FI.f).take (k+1)=(l.map FI.f).take k++[((l[k]).pred,(l[k]).args)]):=by
    rw[aaZ,AS (by simpa using Y),adj];rfl
   clear nw;generalize (l[k]).args=A at*;generalize (l[k]).pred=p at*;obtain⟨M,hM,rW⟩:=M1 (A.length+8) (by omega);have Q4:∀W:World,(Instr.makeSlice 46 (.int .i64 ((A.length:Int)+8)) (.int .i64 ((A.length:Int)+8))).run prog W=.ok (.slice (some ⟨W.heap.size,0,none⟩) (A.length+8) (A.length+8)) (W.alloc (.cells M 9)):=λW=>by
    have D:=rW W;rw[show((A.length+8:Nat):Int)=(A.length:Int)+8 by omega]at D;exact D
   have TO:IntKind.i64.wrap ((A.length:Int)+8)=(A.length:Int)+8:=by rw[aaR];omega
   have O:Below wo.heap.size wo (wo.alloc (.cells M 9)):=aM;obtain⟨E,qW,VI,dp⟩:=M8 (B7.out _ (lF.out _ O)) hM (By wo _);have H3:Hid (E.heap[wo.heap.size]?=some (.cells (Lw.jo A 0).toArray 9 (0,0))/\Below wo.heap.size wo E):=⟨VI,O.trans (dp _ (OF _) (by simp))⟩;obtain⟨oo,c0,c1⟩:=HC.out wo B.out.2.be;obtain⟨jI,d0,d1⟩:=HC.out _ (lF.out _ O);clear hM rW VI dp O
   go_wp2_with fail
   clear qW c0 c1 d0 d1 jI Q4 TO
   go_loopw [6] (λi wq=>∃j:Nat,j<=8/\i=.int .i64 j/\Hid (wq.heap[wo.heap.size]?=some (.cells (Lw.jo A j).toArray 9 (0,0))/\Below wo.heap.size wo wq)) (λi _=>8-(intOf i).toNat)
   ·exact⟨0,IS _,rfl,H3.out⟩
   ·
    obtain⟨j,hj,rfl,H⟩:=hrel;clear H3;by_cases V:j<8
    ·have hd8:decide ((j:Int)<8)=true:=aap (by omega);obtain⟨Cx,c0,c1⟩:=HC.out wr (lF.out _ H.out.2);have qC:(Lw.jo A j).length=A.length+8:=Lw.yN A hj;obtain⟨old,hold⟩:∃v,wr.cell? ⟨wo.heap.size,A.length+j,none⟩=some v:=⟨(Lw.jo A j)[A.length+j]'(by omega),by rw[aq H.out.1];simp[qC]⟩;have KE:=aJ H.out.1 (A.length+j);have aaS:=lt_of_heap H.out.1;have hwj:IntKind.i64.wrap ((A.length:Int)+j)=(A.length:Int)+j:=by rw[aaR];omega
     have XS:IntKind.i64.wrap ((j:Int)+1)=(j:Int)+1:=by rw[aaR];omega
     have hnj:((A.length:Int)+j).toNat=A.length+j:=by omega
     have cq:(0:Int)<=(A.length:Int)+j:=by omega
     have aV:(A.length:Int)+j<((A.length+8:Nat):Int):=by omega
     have O:(A.length:Int)+j<(A.length:Int)+8:=by omega
     have Ag:Hid (∀W:World,Calls prog 167 #[.int .i64 j] W λe w'=>e=.returned (.string ⟨(Lib.decDigits j).toArray⟩)/\w'=W):=λW=>nu j W;have HS9:Hid ((wr.setCell ⟨wo.heap.size,A.length+j,none⟩ (.string (Lw.bh j))).heap[wo.heap.size]?=some (.cells (Lw.jo A (j+1)).toArray 9 (0,0))/\Below wo.heap.size wo (wr.setCell ⟨wo.heap.size,A.length+j,none⟩ (.string (Lw.bh j)))):=by
      refine⟨?_,H.out.2.setCell (by simp) _⟩;rw[aC _ H.out.1,IT,Lw.P2 A V]
     have HKS:Hid (∀v,(wr.setCell ⟨wo.heap.size,A.length+j,none⟩ v).drew.cell? ⟨g,o+k*2+1,none⟩=some (.slice ad A.length ac)):=λv=>(HC.out _ (lF.out _ (H.out.2.setCell (p:=⟨wo.heap.size,A.length+j,none⟩) (by simp) v).drew)).2.2;clear qC;have vS:¬9223372036854775807<6+(Lib.decDigits j).toArray.size:=by
      rw[abz,wE j V];decide
     have HBH:Hid (Lw.bh j=(⟨#[98,101,104,105,110,100]⟩:ByteArray)++⟨(Lib.decDigits j).toArray⟩):=rfl;generalize (Lib.decDigits j).toArray=dd at*
     go_upto_region 10 with fail
     go_region_held3 (λW=>W.cell? ⟨g,o+k*2+1,none⟩=some (.slice ad A.length ac)) (first | (exact HKS.out _) | go_keep) ((go_at_call 167;refine(Ag.out _).mono ?_;rintro e w3 ⟨rfl,h3⟩;subst h3))
     all_goals
      (go_wp2_with fail
       go_roundw
       ·exact⟨j+1,V,by go_num,by rw[<-HBH.out];exact⟨HS9.out.1,HS9.out.2.drew⟩⟩
       ·(simp[intOf];omega))
    ·have X:j=8:=by omega
     subst X;have N:Hid (NM w wr x t l.length ((l.map FI.f).take k) F gd gc):=B.out.2.below H.out.2;obtain⟨n0,n1,_,_,vX⟩:=bG N.out.aY;rw[B.out.1]at n1;obtain⟨i0,hi,cE,ch,cz⟩:=abF Tryz.BP;obtain⟨FM,hFM⟩:∃FM,FM=F.map FI.whole:=⟨_,rfl⟩;have iF:Hid (∀o,(wr.alloc o).ownsRow w.heap.size 46 1 (.slice gd k gc) k FM):=λo=>by
      have D:=N.out.row.alloc o;rw[B.out.1,<-hFM]at D;exact D
     have jX:Hid (∀o U Hb Ha,(wr.alloc o).grownBy U (Value.slice gd k gc).ownBlock->U.ownsRow w.heap.size 46 1 (.slice Hb (k+1) Ha) (k+1) (FM++[.slice (some ⟨wo.heap.size,0,none⟩) (A.length+8) (A.length+8)])->U.heap[x]?=some (.cells #[.slice (some ⟨t,0,none⟩) (l.length+8) (l.length+8),.slice gd k gc] 192 (0,0))/\(∃xs:List Value,(U.setCell ⟨x,1,none⟩ (.slice Hb (k+1) Ha)).heap[t]?=some (.cells xs.toArray 48 (0,0))/\k*2+1<xs.length)/\Below w.heap.size w (U.setCell ⟨x,1,none⟩ (.slice Hb (k+1) Ha))/\Hid ((F++[(⟨p,A,.slice (some ⟨wo.heap.size,0,none⟩) A.length (A.length+8)⟩:FI)]).length=k+1/\NM w (((U.setCell ⟨x,1,none⟩ (.slice Hb (k+1) Ha)).setCell ⟨t,k*2,none⟩ (.string p)).setCell ⟨t,k*2+1,none⟩ (.slice (some ⟨wo.heap.size,0,none⟩) A.length (A.length+8))) x t l.length ((l.map FI.f).take (k+1)) (F++[⟨p,A,.slice (some ⟨wo.heap.size,0,none⟩) A.length (A.length+8)⟩]) Hb Ha)):=by
      intro o U Hb Ha h1 h2;have hF:=B.out.1;subst hFM;rw[<-hF]at h1 h2;obtain⟨q1,y,q3⟩:=N.out.step (p:=p) H.out.1 B.out.2.be.size (λf hf e=>by
       obtain⟨ab,e1,_,e2⟩:=B.out.2.each f hf;rw[e1]at e;simp only[Value.ownBlock,AT]at e;have:=lt_of_heap e2;omega) (by omega) h1 h2
      rw[hF]at q1 y q3;rw[<-tL.out]at q3;have O:Below w.heap.size w U:=(N.out.be.alloc N.out.be.size o).grown h1 (by have:=N.out.be.size;simp;omega) (λq hq=>(N.out.row.lt q hq).1);refine⟨q1,⟨_,y, ?_⟩,O.setCell (by exact N.out.ge.1) _,by rw[If,hF];rfl,q3⟩;rw[If,aX,hF];have:l.length+8-k=(l.length+8-k-1)+1:=by omega
      rw[this,ij];simp
     have hwz:=N.out.be.size
     go_upto_region 12 with(at_builtin;refine abp _ rfl (.tmp 56) (.tmp 58) 73 rfl w.heap.size 46 i0 _ 1 24 Tryz.underlying73 hi cE ch cz rfl (by decide) _ _ _ rfl (iF.out _) ⟨wr.heap.size,0,none⟩ 1 1 [.slice (some ⟨wo.heap.size,0,none⟩) (A.length+8) (A.length+8)] rfl rfl (abC (By _ _)) (by simp[Value.oneCell']) eI (by omega) (by simp;omega) ?_;intro v2 w2 aO bT _;obtain⟨Y9,YT,rfl⟩:=ah aO;obtain⟨q1,⟨xs,y,q3⟩,q4,H5⟩:=jX.out _ _ _ _ bT aO;obtain⟨y0,y1,y2,y3,y4⟩:=bG q1;have HQ1:=aj q1;clear bT aO q1)
     have I:=heap_setCell_same (off:=1) HQ1.out (Value.slice Y9 (k+1) YT);obtain⟨E,xu⟩:∃E,E=w2.setCell ⟨x,1,none⟩ (.slice Y9 (k+1) YT):=⟨_,rfl⟩;rw[<-xu]at y q4 I H5;rw[<-xu];clear xu y0 y1 y2 y3 y4 n0 n1 HQ1 jX iF hi cE ch cz;obtain⟨z0,-,-,-,z4⟩:=bG I;obtain⟨z1,z2,z3⟩:=HC.out E q4;obtain⟨x0,XK⟩:∃x0,E.cell? ⟨t,k*2,none⟩=some x0:=⟨xs[k*2],by rw[aq y];simp⟩;obtain⟨x1,zQ⟩:∃x1,E.cell? ⟨t,k*2+1,none⟩=some x1:=⟨xs[k*2+1],by rw[aq y];simp⟩;have Jm:=aJ y (k*2);have B4:=aJ y (k*2+1);have Vn:=lt_of_heap y;have HK2:Hid (∀u v,((E.setCell ⟨t,k*2,none⟩ u).setCell ⟨t,k*2+1,none⟩ v).drew.cell? ⟨x,0,none⟩=some (.slice (some ⟨t,0,none⟩) (l.length+8) (l.length+8))/\((E.setCell ⟨t,k*2,none⟩ u).setCell ⟨t,k*2+1,none⟩ v).drew.cell? ⟨g,o+k*2,none⟩=some (.string p)/\((E.setCell ⟨t,k*2,none⟩ u).setCell ⟨t,k*2+1,none⟩ v).drew.cell? ⟨g,o+k*2+1,none⟩=some (.slice ad A.length ac)):=by
      intro u v;have tH:Below w.heap.size w ((E.setCell ⟨t,k*2,none⟩ u).setCell ⟨t,k*2+1,none⟩ v).drew:=((q4.setCell (p:=⟨t,k*2,none⟩) Qb.1 _).setCell (p:=⟨t,k*2+1,none⟩) Qb.1 _).drew;obtain⟨_,r1,r2⟩:=HC.out _ tH;refine⟨?_,r1,r2⟩;have cB:x≠t:=fM I y;have e9:((E.setCell ⟨t,k*2,none⟩ u).setCell ⟨t,k*2+1,none⟩ v).heap[x]?=E.heap[x]?:=(abO _ _ _ _ cB).trans (abO _ _ _ _ cB);exact(bG (e9.trans I)).1
     have cq:(k:Int)<l.length+8:=by omega
     have aV:(k:Int)<((l.length+8:Nat):Int):=by omega
     have dp:(k:Int)<l.length:=by omega
     have jL:(A.length:Int)<=((A.length+8:Nat):Int):=by omega
     have fR:(A.length:Int)<=A.length+8:=by omega
     have hwk:IntKind.i64.wrap ((k:Int)+1)=(k:Int)+1:=by rw[aaR];omega
     clear y q3 I
     go_region_held3 (λW=>W.cell? ⟨x,0,none⟩=some (.slice (some ⟨t,0,none⟩) (l.length+8) (l.length+8))/\W.cell? ⟨g,o+k*2,none⟩=some (.string p)/\W.cell? ⟨g,o+k*2+1,none⟩=some (.slice ad A.length ac)) (first | (exact HK2.out _ _) | go_keep) (fail)
     all_goals
      (go_wp2_with fail
       go_roundw
       ·exact⟨k+1,Y,by go_num,_,Y9,YT,H5.out.1,H5.out.2.below (aaj _ _).drew⟩
       ·(simp[intOf];omega))
  ·have gD:decide ((k:Int)<l.length)=false:=aab (by omega);have H6:Hid (mS w wo x t F gd gc 0):=B.out.2.lnB (by have:=B.out.1;omega);have J:Hid (F.length=l.length/\F.map FI.f=l.map FI.f):=by
    have D:=B.out.2.data;rw[show k=(l.map FI.f).length by simp;omega,abS]at D;exact⟨by have:=B.out.1;omega,D⟩
   clear B
   go_wp2_with fail
   go_loopw [7] (λi wr=>∃j:Nat,j<=8/\i=.int .i64 j/\Hid (mS w wr x t F gd gc j)) (λi _=>8-(intOf i).toNat)
   ·exact⟨0,IS _,rfl,H6.out⟩
   ·
    obtain⟨j,hj,rfl,H⟩:=hrel;clear H6;by_cases V:j<8
    ·have hd8:decide ((j:Int)<8)=true:=aap (by omega);have I:=H.out.aY;have y:=H.out.xN;rw[J.out.1]at I;obtain⟨z0,-,-,-,z4⟩:=bG I;have nP:(ax F++Lw.R6 j).length=(l.length+8)*2:=by
      rw[If,aX,Lw.CK,J.out.1];omega
     generalize ax F++Lw.R6 j=xs at y nP;obtain⟨x0,XK⟩:∃x0,wr.cell? ⟨t,(l.length+j)*2,none⟩=some x0:=⟨xs[(l.length+j)*2],by rw[aq y];simp⟩;obtain⟨x1,zQ⟩:∃x1,wr.cell? ⟨t,(l.length+j)*2+1,none⟩=some x1:=⟨xs[(l.length+j)*2+1],by rw[aq y];simp⟩;have Jm:=aJ y ((l.length+j)*2);have B4:=aJ y ((l.length+j)*2+1);have Vn:=lt_of_heap y;have HK2:Hid (∀u v,((wr.setCell ⟨t,(l.length+j)*2,none⟩ u).setCell ⟨t,(l.length+j)*2+1,none⟩ v).drew.cell? ⟨x,0,none⟩=some (.slice (some ⟨t,0,none⟩) (l.length+8) (l.length+8))):=by
      intro u v;have cB:x≠t:=fM I y;have e9:((wr.setCell ⟨t,(l.length+j)*2,none⟩ u).setCell ⟨t,(l.length+j)*2+1,none⟩ v).heap[x]?=wr.heap[x]?:=(abO _ _ _ _ cB).trans (abO _ _ _ _ cB);exact(bG (e9.trans I)).1
     have hwj:IntKind.i64.wrap ((l.length:Int)+j)=(l.length:Int)+j:=by rw[aaR];omega
     have XS:IntKind.i64.wrap ((j:Int)+1)=(j:Int)+1:=by rw[aaR];omega
     have hnj:((l.length:Int)+j).toNat=l.length+j:=by omega
     have cq:(0:Int)<=(l.length:Int)+j:=by omega
     have aV:(l.length:Int)+j<((l.length+8:Nat):Int):=by omega
     have O:(l.length:Int)+j<(l.length:Int)+8:=by omega
     have Ag:Hid (∀W:World,Calls prog 167 #[.int .i64 j] W λe w'=>e=.returned (.string ⟨(Lib.decDigits j).toArray⟩)/\w'=W):=λW=>nu j W;have vS:¬9223372036854775807<6+(Lib.decDigits j).toArray.size:=by
      rw[abz,wE j V];decide
     have HBH:Hid (Lw.bh j=(⟨#[98,101,104,105,110,100]⟩:ByteArray)++⟨(Lib.decDigits j).toArray⟩):=rfl;have HN:Hid (mS w ((wr.setCell ⟨t,(l.length+j)*2,none⟩ (.string (Lw.bh j))).setCell ⟨t,(l.length+j)*2+1,none⟩ (.slice none 0 0)).drew x t F gd gc (j+1)):=by
      have D:=(H.out.step V).drew;rw[J.out.1]at D;exact D
     generalize (Lib.decDigits j).toArray=dd at*;clear y nP I
     go_upto_region 16 with fail
     go_region_held3 (λW=>W.cell? ⟨x,0,none⟩=some (.slice (some ⟨t,0,none⟩) (l.length+8) (l.length+8))) (first | (exact HK2.out _ _) | go_keep) ((go_at_call 167;refine(Ag.out _).mono ?_;rintro e w3 ⟨rfl,h3⟩;subst h3))
     all_goals
      (go_wp2_with fail
       go_roundw
       ·exact⟨j+1,V,by go_num,by rw[<-HBH.out];exact HN.out⟩
       ·(simp[intOf];omega))
    ·have X:j=8:=by omega
     subst X
     go_wp2_with fail
     go_ret;exact⟨x,t,F,gd,gc,rfl,H.out,J.out.2⟩
variable{A:List ByteArray}{F:List FI}{l:List Value}{B wb n g k i j:Nat}{o:Obj}{e0 e1 e2 e3 e4 fv av bV bW:Value}{w:World}
def KX(w:World):Prop:=Lib.TabIs prog w "internal/strconv.uint64pow10" .u64 Lib.pow10Tab
theorem KX.below{w'}(h:KX w)(j:Below w.heap.size w w'):KX w':=by
 unfold KX Lib.TabIs World.var? at h ⊢;cases i:prog.globalNamed "internal/strconv.uint64pow10" with
 | none=>rw[i]at h;exact h
 | some g=>
  rw[i]at h;simp only[Option.bind_some]at h ⊢;cases e:w.heap[g]? with
  | none=>rw[e]at h;cases h
  | some o=>
   rw[e]at h;rw[j.block g (lt_of_heap e),e];exact h
theorem Rj(u):(Lib.decDigits u).length<=u+1:=by
 rw[Lib.decDigits_length]
 induction u using Nat.strongRecOn with
 | _ u ih=>
  by_cases h:u<10
  ·rw[Lib.nDigits_small h];omega
  ·rw[Lib.nDigits_big h];have:=ih (u/10) (by omega);omega
theorem GZ(n:Nat)(w)(h:KX w)(i:n<=1000000000000000:=by omega):Calls prog 167 #[.int .i64 n] w λe w'=>e=.returned (.string ⟨(Lib.decDigits n).toArray⟩)/\Below w.heap.size w w':=by
 refine(OB (n:Int) (by omega) (by omega) w h).mono ?_;rintro e w' ⟨rfl,k,os,rfl⟩;refine⟨?_,Lib.below_grow _ _ (OF _) _ _⟩;unfold Lib.itoa;rw[aaD (by omega)];rfl
theorem Bk.count{FP AP}(h:Bk w B wb e0 e1 e2 e3 e4 fv av bV bW n FP AP)(k:Nat):Bk (w.setCell ⟨wb,9,none⟩ (.int .i64 k)) B wb e0 e1 e2 e3 e4 fv av bV bW k FP AP:=by
 have x:=Kb.only (w:=w) (g:=wb) (j:=9) (v:=.int .i64 k);have u:∀{T:TypeId},T≠77->∀b,b∈[wb]->∀q fz,w.heap[b]?=some (.cells q T fz)->False:=λ{T} y b i q fz e=>by
  simp only[aae]at i;subst i;rw[h.rows.aY]at e;simp only[AT,aa1]at e;exact y e.2.1.symm
 exact⟨h.rows.count k,λp t=>(h.fs p t).kb x (λb i _=>u (by decide) b i),λp t=>(h.ns p t).kb x (λb i _=>u (by decide) b i),h.off⟩
theorem wg{e s c xs}(h:w.ownsRow B e s (.slice (some ⟨g,0,none⟩) n c) n xs):∃i,w.heap[g]?=some (.cells i e (0,0)):=by
 rcases h.2 with⟨j,_⟩ | ⟨t,cap,i,e1,_,q,_⟩
 ·cases j
 ·grind
theorem Uy{u}(h:k<l.length):(List.replicate k u++l.drop k).set k u=List.replicate (k+1) u++l.drop (k+1):=by
 rw[ab9 _ _ (by simp),ad9,aew,aan h,aaE,List.replicate_succ'];simp
theorem Bk.text{FP AP}(h:Bk w B wb e0 e1 e2 e3 e4 fv av bV bW n FP AP){i}(j:w.heap[g]?=some (.cells i 9 (0,0)))(t:bV.ownBlock≠some g/\bW.ownBlock≠some g/\∀p,p∈AP->p.v.ownBlock≠some g)(k:Nat)(v:Value):Bk (w.setCell ⟨g,k,none⟩ v) B wb e0 e1 e2 e3 e4 fv av bV bW n FP AP:=by
 refine h.kb (Kb.only (w:=w)) (λb q=>?_);simp only[aae]at q;subst q;refine⟨fM j h.rows.aY,λu T fz e=>?_⟩;rw[j]at e;simp only[AT,aa1]at e;obtain⟨_,rfl,_⟩:=e;grind
theorem Jz(w0 w:World)(cZ:Below w0.heap.size w0 w)(hT:KX w0)(wb:Nat)(e0 e1 e2 e3 e4 fv av bV bW:Value)(n:Nat)(FP AP)(h:Bk w w0.heap.size wb e0 e1 e2 e3 e4 fv av bV bW n FP AP)(x){L:Nat}(A:Nat)(hl:w.ownsRow w0.heap.size 9 1 (.slice x L A) L l)
 (EF:∀q,(Value.slice x L A).ownBlock=some q->bV.ownBlock≠some q/\bW.ownBlock≠some q/\∀p,p∈AP->p.v.ownBlock≠some q)(hL:L<=1000000)(hA:AP.length<=900000000)(hn:n<=1000000000000):
 Calls prog 171 #[.pointer (some ⟨wb,5,none⟩),.slice x L A] w λe w'=>e=.returned (.tuple #[])/\∃Z ep X,Bk w' w0.heap.size wb e0 e1 e2 e3 e4 fv Z bV ep (n+1) FP (AP++X)/\List.length X=4/\Kb (wb::(av.ownBlock.toList++bW.ownBlock.toList++(Value.slice x L A).ownBlock.toList)) w w'/\aZ w av Z/\aZ w bW ep/\∀p,p∈X->∀q,p.v.ownBlock=some q->(Value.slice x L A).ownBlock=some q\/w.heap.size<=q:=by
 obtain⟨S,hS⟩:∃S,S=wb::(av.ownBlock.toList++bW.ownBlock.toList++(Value.slice x L A).ownBlock.toList):=⟨_,rfl⟩;have cT:wb∈S/\∀g,x=some ⟨g,0,none⟩->g∈S:=by
  rw[hS];refine⟨by simp,λg e=>?_⟩;simp[e,Value.ownBlock]
 have QO:∀i,i∈S->w0.heap.size<=i:=by
  rw[hS];intro i t;simp only[BY,ZD,abh]at t;rcases t with rfl | (t | t) | t
  ·exact h.rows.ge
  ·exact(h.rows.al.lt i t).1
  ·exact(h.rows.am.lt i t).1
  ·exact(hl.lt i t).1
 have XN:Hid (∀W,Kb S w W->KX W):=λW hW=>hT.below (hW.aQ cZ cZ.size QO);have B7:=aj cZ.size;obtain⟨v5,v6,v7,v8,v9,D,u⟩:=h.rows.cells;have vf:=D 9;have dA:IntKind.i64.wrap ((n:Int)+1)=(n:Int)+1:=by rw[aaR];omega
 have V:Hid (Bk (w.setCell ⟨wb,9,none⟩ (.int .i64 ((n:Int)+1))) w0.heap.size wb e0 e1 e2 e3 e4 fv av bV bW (n+1) FP AP/\Kb S w (w.setCell ⟨wb,9,none⟩ (.int .i64 ((n:Int)+1)))/\(w.setCell ⟨wb,9,none⟩ (.int .i64 ((n:Int)+1))).ownsRow w0.heap.size 9 1 (.slice x L A) L l):=by
  have I:=h.count (n+1);rw[show((n+1:Nat):Int)=(n:Int)+1 by omega]at I;refine⟨I,(Kb.only (w:=w)).mono (λi t _=>?_),nM h.rows.aY hl⟩;simp only[aae]at t;rw[t];exact cT.1
 have GX:=aj EF;clear EF h hl hT cZ QO v5 v6 v7 v8 D
 go_enter func171,ntmps171
 go_upto_region 1 with fail
 obtain⟨W0,zR⟩:∃W0,W0=w.setCell ⟨wb,9,none⟩ (.int .i64 ((n:Int)+1)):=⟨_,rfl⟩;rw[<-zR]at V;rw[<-zR];clear zR v9 vf u dA;obtain⟨-,-,-,-,v9,-,u⟩:=V.out.1.rows.cells;have Ag:=λW (hW:Kb S w W)=>GZ (n+1) W (XN.out W hW);rw[show((n+1:Nat):Int)=(n:Int)+1 by omega]at v9 Ag;have Ag:=aj Ag;have vS:¬9223372036854775807<4+(Lib.decDigits (n+1)).toArray.size:=by
  rw[abz];have:=Rj (n+1);omega
 obtain⟨dd,hdd⟩:∃dd,dd=(Lib.decDigits (n+1)).toArray:=⟨_,rfl⟩;rw[<-hdd]at Ag vS;clear hdd
 go_wp2_with (go_at_call 167;refine(Ag.out _ (by exact V.out.2.1)).mono ?_;rintro e w3 ⟨rfl,dp⟩;have H1:Hid (Bk w3 w0.heap.size wb e0 e1 e2 e3 e4 fv av bV bW (n+1) FP AP/\Kb S w w3/\w3.ownsRow w0.heap.size 9 1 (.slice x L A) L l):=⟨V.out.1.below dp,V.out.2.1.below dp,ae V.out.2.2 dp⟩;clear dp V v9 u)
 obtain⟨m,hm⟩:∃m:ByteArray,m=(⟨#[109,97,114,107]⟩:ByteArray)++⟨dd⟩:=⟨_,rfl⟩;rw[<-hm];clear hm vS Ag XN;have hlL:l.length=L:=by
  have:=H1.out.2.2.1;omega
 go_loopw [5] (λi wr=>∃k:Nat,k<=L/\i=.int .i64 k/\Hid (Bk wr w0.heap.size wb e0 e1 e2 e3 e4 fv av bV bW (n+1) FP AP/\Kb S w wr/\wr.ownsRow w0.heap.size 9 1 (.slice x L A) L (List.replicate k (.string m)++l.drop k))) (λi _=>L-(intOf i).toNat)
 ·exact⟨0,IS _,rfl,H1.out⟩
 ·
  obtain⟨k,hk,rfl,J⟩:=hrel;clear H1;by_cases hkL:k<L
  ·have gD:decide ((k:Int)<L)=true:=aap (by omega);obtain⟨g,rfl,g1,g2,g3⟩:=aA J.out.2.2;obtain⟨cur,nk⟩:=wg J.out.2.2;have KE:=aJ nk k;obtain⟨y,hy⟩:∃y,wr.cell? ⟨g,k,none⟩=some y:=⟨_,g3 k _ (AS (by rw[If,ad9,acP];omega))⟩;have uP:(k:Int)<L:=by omega
   have hwk:IntKind.i64.wrap ((k:Int)+1)=(k:Int)+1:=by rw[aaR];omega
   have HS:Hid (Bk (wr.setCell ⟨g,k,none⟩ (.string m)) w0.heap.size wb e0 e1 e2 e3 e4 fv av bV bW (n+1) FP AP/\Kb S w (wr.setCell ⟨g,k,none⟩ (.string m))/\(wr.setCell ⟨g,k,none⟩ (.string m)).ownsRow w0.heap.size 9 1 (.slice (some ⟨g,0,none⟩) L A) L (List.replicate (k+1) (.string m)++l.drop (k+1))):=by
    refine⟨J.out.1.text nk (GX.out g rfl) k _,J.out.2.1.trans ((Kb.only (w:=wr)).mono (λi t _=>?_)), ?_⟩
    ·simp only[aae]at t;rw[t];exact cT.2 g rfl
    ·rw[<-Uy (by omega)];exact DJ J.out.2.2
   clear g3 nk J
   go_wp2_with fail
   go_roundw
   ·exact⟨k+1,hkL,by go_num,HS.out⟩
   ·(simp[intOf];omega)
  ·have gD:decide ((k:Int)<L)=false:=aab (by omega);have H:Hid (Nm w wr w0.heap.size wb e0 e1 e2 e3 e4 fv av bV bW (n+1) FP AP m (.slice x L A) x L A av bW [] ((AP++[]).map fh.v) ((AP++[]).map fh.k)):=by
    obtain⟨I,E,h3⟩:=J.out;rw[show k=L by omega,abG (by omega),aby]at h3;rw[hS]at E;refine⟨by rw[aby];exact I.rows,I.fs,by rw[aby];exact I.ns,by rw[aby];exact I.off,h3,E,aZ.refl _ _,aZ.refl _ _,(λp hp=>by cases hp),(λp hp=>by cases hp),λq hq=>⟨.inl hq,GX.out q hq⟩⟩
   clear J GX cT
   go_wp2_with fail
   go_loopw [1,6] (λlv i wr=>∃(j:Nat) (d:Option Addr) (c:Nat) (Z ep:Value) (X:List fh),j<=4/\i=.int .i64 j/\lv=.slice d (L+j) c/\Hid (X.length=j/\Nm w wr w0.heap.size wb e0 e1 e2 e3 e4 fv av bV bW (n+1) FP AP m (.slice x L A) d (L+j) c Z ep X ((AP++X).map fh.v) ((AP++X).map fh.k))) (λ_ i _=>4-(intOf i).toNat)
   ·exact⟨0,x,A,av,bW,[],IS _,rfl,rfl,rfl,H.out⟩
   ·
    rename World=>wo;obtain⟨j,d,c,Z,ep,X,hj,rfl,rfl,M⟩:=hrel;clear H;by_cases hj4:j<4
    ·have Yc:decide ((j:Int)<4)=true:=aap (by omega);obtain⟨ad,ac,nw⟩:=ah M.out.2.rows.al;obtain⟨kd,kc,Z6⟩:=ah M.out.2.rows.am;obtain⟨U,VL⟩:∃U,U=(AP++X).map fh.v:=⟨_,rfl⟩;obtain⟨ks,QH⟩:∃ks,ks=(AP++X).map fh.k:=⟨_,rfl⟩;obtain⟨N,hN⟩:∃N,N=AP.length+j:=⟨_,rfl⟩;have C5:U.length=N:=by rw[VL,aaL,If,M.out.1,hN]
     have Hj:ks.length=N:=by rw[QH,aaL,If,M.out.1,hN]
     rw[<-VL,C5]at nw;rw[<-QH,Hj]at Z6;subst nw Z6;have Qi:Hid (Nm w wo w0.heap.size wb e0 e1 e2 e3 e4 fv av bV bW (n+1) FP AP m (.slice x L A) d (L+j) c (.slice ad N ac) (.slice kd N kc) X U ks):=by
      rw[VL,QH];exact M.out.2
     have HX:Hid (X.length=j/\U++[.slice d (L+j) c]=(AP++(X++[(⟨d,L+j,c,m⟩:fh)])).map fh.v/\ks++[.string m]=(AP++(X++[(⟨d,L+j,c,m⟩:fh)])).map fh.k):=by
      refine⟨M.out.1, ?_, ?_⟩
      ·rw[VL,<-aa8];exact(aa6 (f:=fh.v) (l₁:=AP++X) (l₂:=[⟨d,L+j,c,m⟩])).symm
      ·rw[QH,<-aa8];exact(aa6 (f:=fh.k) (l₁:=AP++X) (l₂:=[⟨d,L+j,c,m⟩])).symm
     have hNb:N<=900000004:=by omega
     clear M VL QH hN;have cp:w0.heap.size<=wo.heap.size:=aaK B7.out Qi.out.kb.size;obtain⟨i0,t,cE,ch,cz⟩:=abF Tryz.BP;have O:Hid (∀o,(wo.alloc o).ownsRow w0.heap.size 46 1 (.slice ad N ac) N U):=λo=>by
      have h9:=Qi.out.rows.al.alloc o;rw[C5]at h9;exact h9
     obtain⟨-,v6,-,-,-,D,u⟩:=Qi.out.rows.cells
     go_upto_region 10 with(at_builtin;go_must (refine dC _ rfl (.tmp 39) (.tmp 41) 73 rfl w0.heap.size 46 i0 _ 1 24 Tryz.underlying73 t cE ch cz rfl (by decide) (.slice ad N ac) N U rfl (O.out _) ⟨wo.heap.size,0,none⟩ 1 1 [.slice d (L+j) c] rfl rfl (abC (By _ _)) (by simp[Value.oneCell']) (by decide) eI (by omega) (by simp;omega) ?_;intro ga ca w2 aO bT Hf _;obtain⟨F,q2⟩:=Qi.out.a bT aO (by omega) Hf;have H:=aj q2;have y0:w2.cell? ⟨wb,6,none⟩=some (.slice ad N ac):=(by rw[aq F];rfl);have y1:=aJ F 6;have y2:=lt_of_heap F;clear bT aO Hf F q2))
     obtain⟨W3,xu⟩:∃W3,W3=w2.setCell ⟨wb,6,none⟩ (.slice (some ⟨ga,0,none⟩) (N+1) ca):=⟨_,rfl⟩;rw[<-xu]at H;rw[<-xu];clear xu O Qi v6 D u y0 y1 y2 t cE ch cz i0;have hs3:w0.heap.size<=W3.heap.size:=aaK B7.out H.out.kb.size;obtain⟨i0,t,cE,ch,cz⟩:=abF Tryz.jC;have O:Hid (∀o,(W3.alloc o).ownsRow w0.heap.size 9 1 (.slice kd N kc) N ks):=λo=>by
      have h9:=H.out.rows.am.alloc o;rw[Hj]at h9;exact h9
     obtain⟨-,-,-,v8,-,D,u⟩:=H.out.rows.cells
     go_upto_region 11 with(at_builtin;go_must (refine dC _ rfl (.tmp 49) (.tmp 51) 46 rfl w0.heap.size 9 i0 _ 1 16 ab2 t cE ch cz rfl (by decide) (.slice kd N kc) N ks rfl (O.out _) ⟨W3.heap.size,0,none⟩ 1 1 [.string m] rfl rfl (abC (By _ _)) (by simp[Value.oneCell']) (by decide) eI (by omega) (by simp;omega) ?_;intro gb cb w4 dL dv hf4 _;obtain⟨F,q2⟩:=H.out.b dv dL (by omega) hf4;have H4:=aj q2;have y0:w4.cell? ⟨wb,8,none⟩=some (.slice kd N kc):=(by rw[aq F];rfl);have y1:=aJ F 8;have y2:=lt_of_heap F;clear dv dL hf4 F q2))
     obtain⟨W5,Mk⟩:∃W5,W5=w4.setCell ⟨wb,8,none⟩ (.slice (some ⟨gb,0,none⟩) (N+1) cb):=⟨_,rfl⟩;rw[<-Mk]at H4;rw[<-Mk];clear Mk O H v8 D u y0 y1 y2;have hs5:w0.heap.size<=W5.heap.size:=aaK B7.out H4.out.kb.size;have O:Hid (∀o,(W5.alloc o).ownsRow w0.heap.size 9 1 (.slice d (L+j) c) (L+j) (List.replicate (L+j) (.string m))):=λo=>H4.out.row.alloc o;have hwj:IntKind.i64.wrap ((j:Int)+1)=(j:Int)+1:=by rw[aaR];omega
     go_wp2_with (at_builtin;go_must (refine dC _ rfl (.tmp 55) (.tmp 57) 46 rfl w0.heap.size 9 i0 _ 1 16 ab2 t cE ch cz rfl (by decide) (.slice d (L+j) c) (L+j) (List.replicate (L+j) (.string m)) rfl (O.out _) ⟨W5.heap.size,0,none⟩ 1 1 [.string m] rfl rfl (abC (By _ _)) (by simp[Value.oneCell']) (by decide) eI (by omega) (by simp;omega) ?_;intro gc cc w6 qG nF WJ R8;have H6:Hid _:=H4.out.more (by omega) nF qG WJ R8;clear nF qG WJ R8))
     go_roundw
     ·
      refine⟨j+1,some ⟨gc,0,none⟩,cc,.slice (some ⟨ga,0,none⟩) (N+1) ca,.slice (some ⟨gb,0,none⟩) (N+1) cb,X++[⟨d,L+j,c,m⟩],hj4,by go_num,rfl,by rw[If,HX.out.1];rfl, ?_⟩;rw[<-HX.out.2.1,<-HX.out.2.2];exact H6.out
     ·(simp[intOf];omega)
    ·have Yc:decide ((j:Int)<4)=false:=aab (by omega)
     go_wp2_with fail
     go_end0;obtain⟨I,E⟩:=M.out;exact⟨rfl,Z,ep,X,⟨E.rows,E.fs,E.ns,E.off⟩,by omega,E.kb,E.fa,E.fk,E.xb⟩
/- axiomlaw: back: its parts. -/
namespace Lw
def bs(F:List FI):List Nat:=F.filterMap λf=>f.av.ownBlock
def PN:ByteArray:=⟨#[111,116,104,101,114,115]⟩
def sA(A:List ByteArray)(k:Nat):List Value:=List.replicate k (.string PN)++(jo A 8).drop k
theorem Re(h:j<k):(sA A k)[j]?=some (.string PN):=by grind [sA,PN]
theorem TC(k):(sA A k)[k]?=(jo A 8)[k]?:=by grind [sA]
theorem OR(h:k<A.length+8):(sA A k).set k (.string PN)=sA A (k+1):=by
 unfold sA;have e:=yN A (OF 8);rw[ab9 _ _ (by simp),ad9,aew,aan (by omega),aaE,List.replicate_succ'];simp
theorem Qf(h:k<A.length):(jo A 8)[k]?=some (.string A[k]):=by
 unfold jo strCells;rw[ab3,aa8,acx h,AS h];rfl
theorem Mq(h:k<8):(jo A 8)[A.length+k]?=some (.string (bh k)):=by
 unfold jo strCells;rw[ab3,aa8,abr (by omega),Nat.add_sub_cancel_left,acx (by rw[abv,wy];omega),List.getElem?_take_of_lt h];simp[Po,h]
theorem Ti(h:i<F.length){d c}(e:(F[i]).av=.slice (some ⟨j,d,none⟩) n c):bs (F.take (i+1))=bs (F.take i)++[j]:=by
 unfold bs;rw[aaZ,AS h,List.filterMap_append];simp[e,Value.ownBlock]
end Lw
theorem mS.kept{w0 W J I gd gc}(h:mS w0 w J I F gd gc 8)(A:Kb (Lw.bs (F.take i)) w W):
 W.heap[J]?=some (.cells #[.slice (some ⟨I,0,none⟩) (F.length+8) (F.length+8),.slice gd F.length gc] 192 (0,0))/\W.heap[I]?=some (.cells (ax F++Lw.R6 8).toArray 48 (0,0))/\W.ownsRow w0.heap.size 46 1 (.slice gd F.length gc) F.length (F.map FI.whole)/\Below w0.heap.size w0 W/\∀j (E:j<F.length),i<=j->∃y,(F[j]).av=.slice (some ⟨y,0,none⟩) (F[j]).args.length ((F[j]).args.length+8)/\w0.heap.size<=y/\W.heap[y]?=some (.cells (Lw.jo (F[j]).args 8).toArray 9 (0,0)):=by
 have D:∀b,b∈Lw.bs (F.take i)->w0.heap.size<=b/\∃t,w.heap[b]?=some (.cells t 9 (0,0)):=by
  intro b x;unfold Lw.bs at x;rw[acz]at x;obtain⟨f,H,e⟩:=x;obtain⟨y,e1,e2,e3⟩:=h.each f (ab4 H);rw[e1]at e;simp only[Value.ownBlock,AT]at e;subst e;exact⟨e2,_,e3⟩
 refine⟨A.heap h.aY ?_,A.heap h.xN ?_, ?_, ?_, ?_⟩
 ·intro u;obtain⟨_,t,e⟩:=D _ u;rw[h.aY]at e;simp at e
 ·intro u;obtain⟨_,t,e⟩:=D _ u;rw[h.xN]at e;simp at e
 ·refine A.aR h.row (λb t fz x e=>?_);obtain⟨_,U,e2⟩:=D _ x;rw[e2]at e;simp at e
 ·exact A.aQ h.be h.be.size (λb x=>(D b x).1)
 ·intro j E O;obtain⟨y,e1,e2,e3⟩:=h.each _ (IN E);refine⟨y,e1,e2,A.heap e3 ?_⟩;intro u;unfold Lw.bs at u;rw[acz]at u;obtain⟨f,H,e⟩:=u;obtain⟨q,N,rfl⟩:=List.mem_take_iff_getElem.1 H;have M:=adF.1 h.apart q j (by omega) E (by omega);exact M y e (by rw[e1];rfl)
/- axiomlaw: Book.keep: its steps. -/
structure Kp(w W:World)(B wb:Nat)(e0 e1 e2 e3 e4 fv av bV bW:Value)(n:Nat)(FP AP:List fh)(F:List FI)(ld:Option Addr)(lc i:Nat)(nO ep:Value)(X:List fh):Prop where
 bk:Bk W B wb e0 e1 e2 e3 e4 fv nO bV ep (n+i) FP (AP++X)
 xl:X.length=4*i
 kb:Kb (wb::(av.ownBlock.toList++bW.ownBlock.toList++Lw.bs F)) w W
 fa:aZ w av nO
 fk:aZ w bW ep
 row:W.ownsRow B 48 2 (.slice ld F.length lc) F.length (ax F)
 rest:∀j (hj:j<F.length),i<=j->W.ownsRow B 9 1 (F[j]).av (F[j]).args.length (strCells (F[j]).args)/\∀q,(F[j]).av.ownBlock=some q->bV.ownBlock≠some q/\ep.ownBlock≠some q/\∀p,p∈AP++X->p.v.ownBlock≠some q
theorem Kp.step{W W' FP AP ld lc D H O U X Z}(h:Kp w W B wb e0 e1 e2 e3 e4 fv av bV bW n FP AP F ld lc i D H X)(qQ:F.Pairwise λa b=>∀q,a.av.ownBlock=some q->b.av.ownBlock≠some q)(hi:i<F.length)
 (t:Bk W' B wb e0 e1 e2 e3 e4 fv O bV U (n+i+1) FP (AP++X++Z))(hz:Z.length=4)(y:Kb (wb::(D.ownBlock.toList++H.ownBlock.toList++(F[i]).av.ownBlock.toList)) W W')(Uh:aZ W D O)(He:aZ W H U)(hzb:∀p,p∈Z->∀q,p.v.ownBlock=some q->(F[i]).av.ownBlock=some q\/W.heap.size<=q):
 Kp w W' B wb e0 e1 e2 e3 e4 fv av bV bW n FP AP F ld lc (i+1) O U (X++Z):=by
 have N:∀b,b∈wb::(D.ownBlock.toList++H.ownBlock.toList++(F[i]).av.ownBlock.toList)->b=wb\/D.ownBlock=some b\/H.ownBlock=some b\/(F[i]).av.ownBlock=some b:=λb t=>by
  simp only[BY,ZD,abh]at t;rcases t with t | (t | t) | t
  ·exact .inl t
  ·exact .inr (.inl t)
  ·exact .inr (.inr (.inl t))
  ·exact .inr (.inr (.inr t))
 have wF:∀b,b∈wb::(D.ownBlock.toList++H.ownBlock.toList++(F[i]).av.ownBlock.toList)->∀x T fz,W.heap[b]?=some (.cells x T fz)->T=77\/T=46\/T=9:=λb t x T fz e=>by
  have y:∀{u:Value} {E:TypeId} {j:Nat} {V:List Value},W.ownsRow B E 1 u j V->u.ownBlock=some b->T=E:=λ{u E j V} hu A=>by
   obtain⟨c9,f9,I⟩:=au hu _ A;rw[e]at I;simp only[AT,aa1]at I;exact I.2.1
  rcases N b t with rfl | t | t | t
  ·rw[h.bk.rows.aY]at e;simp only[AT,aa1]at e;exact .inl e.2.1.symm
  ·exact .inr (.inl (y h.bk.rows.al t))
  ·exact .inr (.inr (y h.bk.rows.am t))
  ·exact .inr (.inr (y (h.rest i hi (OF _)).1 t))
 refine⟨by rw[<-aa8];exact t,by rw[If,h.xl,hz];omega, ?_,h.fa.trans Uh h.kb.size,h.fk.trans He h.kb.size, ?_, ?_⟩
 ·refine h.kb.trans' y (λb t aL=>?_);rcases N b t with rfl | t | t | t
  ·simp
  ·rcases h.fa b t with e | e
   ·simp[e]
   ·omega
  ·rcases h.fk b t with e | e
   ·simp[e]
   ·omega
  ·simp only[BY,ZD];refine .inr (.inr ?_);unfold Lw.bs;grind
 ·refine y.aR h.row (λb x fz t e=>?_);rcases wF b t _ _ _ e with M | M | M<;>cases M
 ·intro j hj RP;obtain⟨J,r2⟩:=h.rest j hj (by omega);have cB:=adF.1 qQ i j hi hj (by omega);refine⟨y.row J (λb t hm=>?_),λq hq=>?_⟩
  ·obtain⟨x,fz,e⟩:=au J _ t;rcases N b hm with rfl | hm | hm | hm
   ·rw[h.bk.rows.aY]at e;simp at e
   ·obtain⟨c9,f9,A⟩:=au h.bk.rows.al _ hm;rw[e]at A;simp at A
   ·exact(r2 b t).2.1 hm
   ·exact cB b hm t
  ·obtain⟨r3,r4,r5⟩:=r2 q hq;obtain⟨x,fz,e⟩:=au J _ hq;have aL:=lt_of_heap e;refine⟨r3,λA=>?_,λp hp A=>?_⟩
   ·rcases He q A with I | I
    ·exact r4 I
    ·omega
   ·grind
def oz(m:ByteArray)(k:Nat):List Value:=(List.replicate k [Value.string m,.slice none 0 0]).flatten
theorem Gk(m k):(oz m k).length=k*2:=by simp[oz]
theorem tQ(m k):oz m (k+1)=oz m k++[.string m,.slice none 0 0]:=by
 unfold oz;rw[List.replicate_succ',List.flatten_append];simp
theorem G4(m):∀{k j:Nat},j<k->(oz m k)[j*2]?=some (.string m)/\(oz m k)[j*2+1]?=some (.slice none 0 0)
 | 0,j,h=>by omega
 | k+1,j,h=>by
  have t:=Gk m k;rw[tQ];by_cases e:j<k
  ·obtain⟨q,i⟩:=G4 m e;rw[acx (by omega),acx (by omega)];exact⟨q,i⟩
  ·rw[abr (by omega),abr (by omega),show j*2-(oz m k).length=0 by omega,show j*2+1-(oz m k).length=1 by omega];exact⟨rfl,rfl⟩
theorem OP{m}(h:k*2+1<l.length):((oz m k++l.drop (k*2)).set (k*2) (.string m)).set (k*2+1) (.slice none 0 0)=oz m (k+1)++l.drop ((k+1)*2):=by
 have e:=Gk m k;rw[ab9 _ _ (by omega),ab9 _ _ (by omega),e,aew,aan (by omega),aaE,show k*2+1-k*2=1 by omega,aaH,aan (by omega),aaE,tQ,show(k+1)*2=k*2+1+1 by omega];simp
theorem Bk.fact{FP AP}(h:Bk w B wb e0 e1 e2 e3 e4 fv av bV bW n FP AP){i}(j:w.heap[g]?=some (.cells i 48 (0,0)))(t:∀p,p∈FP->p.v.ownBlock≠some g)(k:Nat)(v:Value):Bk (w.setCell ⟨g,k,none⟩ v) B wb e0 e1 e2 e3 e4 fv av bV bW n FP AP:=by
 refine h.kb (Kb.only (w:=w)) (λb q=>?_);simp only[aae]at q;subst q;refine⟨fM j h.rows.aY,λu T fz e=>?_⟩;rw[j]at e;simp only[AT,aa1]at e;obtain⟨_,rfl,_⟩:=e;grind
structure Fa(w W:World)(B wb:Nat)(e0 e1 e2 e3 e4 fv av bV bW:Value)(n:Nat)(FP AP:List fh)(m:ByteArray)(l0:Value)(d:Option Addr)(k c:Nat)(wG iP:Value)(Y:List fh)(fa ks:List Value):Prop where
 rows:uA W B wb e0 e1 e2 e3 e4 wG av iP bW n fa (AP.map fh.v) ks (AP.map fh.k)
 fs:∀p,p∈FP++Y->NC W p
 ns:∀p,p∈AP->NB W p
 off:∀p,p∈AP->∀q,p.v.ownBlock=some q->iP.ownBlock≠some q/\bW.ownBlock≠some q
 row:W.ownsRow B 48 2 (.slice d k c) k (oz m k)
 kb:Kb (wb::(fv.ownBlock.toList++bV.ownBlock.toList++l0.ownBlock.toList)) w W
 ff:aZ w fv wG
 fk:aZ w bV iP
 yn:∀p,p∈Y->p.n<=k
 lb:∀q,(Value.slice d k c).ownBlock=some q->(l0.ownBlock=some q\/w.heap.size<=q)/\∀p,p∈FP->p.v.ownBlock≠some q
section
variable {w W:World} {B wb:Nat} {e0 e1 e2 e3 e4 fv av bV bW:Value} {n:Nat} {FP AP:List fh} {m:ByteArray} {l0:Value} {d:Option Addr} {k c:Nat} {wG iP:Value} {Y:List fh} {fa ks:List Value}
theorem Fa.a{y t x}(h:Fa w W B wb e0 e1 e2 e3 e4 fv av bV bW n FP AP m l0 d k c wG iP Y fa ks)(F:(W.alloc o).grownBy y wG.ownBlock)(H:y.ownsRow B 37 1 t j (fa++[x]))(I:j=fa.length+1)(J:aZ (W.alloc o) wG t):
 y.heap[wb]?=some (.cells #[e0,e1,e2,e3,e4,wG,av,iP,bW,.int .i64 n] 77 (0,0))/\Fa w (y.setCell ⟨wb,5,none⟩ t) B wb e0 e1 e2 e3 e4 fv av bV bW n FP AP m l0 d k c t iP Y (fa++[x]) ks:=by
 obtain⟨N,M⟩:=h.rows.ado F H I;have u:=jz (wb:=wb) (v':=t) (j:=5) F;refine⟨N,M,λp A=>(h.fs p A).kb u (λb E _ q fz=>dG h.rows.aY h.rows.fl (by decide) (by decide) b q fz E),λp A=>(h.ns p A).kb u (λb E _ q fz=>dG h.rows.aY h.rows.fl (by decide) (by decide) b q fz E),h.off,u.aR h.row (dG h.rows.aY h.rows.fl), ?_, ?_,h.fk,h.yn,h.lb⟩
 ·refine h.kb.trans' u (λi D O=>?_);rcases BY.1 D with rfl | D
  ·simp
  ·rcases h.ff i (by simpa using D)with e | e
   ·simp[e]
   ·omega
 ·exact h.ff.trans J (by have:=h.kb.size;simp;omega)
theorem Fa.b{E y x}(h:Fa w W B wb e0 e1 e2 e3 e4 fv av bV bW n FP AP m l0 d k c wG iP Y fa ks)(J:(W.alloc o).grownBy E iP.ownBlock)(O:E.ownsRow B 9 1 y j (ks++[x]))(U:j=ks.length+1)(I:aZ (W.alloc o) iP y):
 E.heap[wb]?=some (.cells #[e0,e1,e2,e3,e4,wG,av,iP,bW,.int .i64 n] 77 (0,0))/\Fa w (E.setCell ⟨wb,7,none⟩ y) B wb e0 e1 e2 e3 e4 fv av bV bW n FP AP m l0 d k c wG y Y fa (ks++[x]):=by
 obtain⟨X,V⟩:=h.rows.aa4 J O U I;have D:=jz (wb:=wb) (v':=y) (j:=7) J;have N:∀b,b∈wb::iP.ownBlock.toList->b=wb\/iP.ownBlock=some b:=λb u=>by
  rcases BY.1 u with e | e
  ·exact .inl e
  ·exact .inr (by simpa using e)
 refine⟨X,V,λp t=>(h.fs p t).kb D (λb u _ A fz=>dG h.rows.aY h.rows.fm (by decide) (by decide) b A fz u),λp t=>(h.ns p t).kb D (λb u e A fz M=>?_),λp t q F=>⟨λZ=>?_,(h.off p t q F).2⟩,D.aR h.row (dG h.rows.aY h.rows.fm), ?_,h.ff, ?_,h.yn,h.lb⟩
 ·rcases N b u with rfl | u
  ·rw[h.rows.aY]at M;simp at M
  ·exact(h.off p t b e).1 u
 ·rcases I q Z with e | e
  ·exact(h.off p t q F).1 e
  ·have:=(h.ns p t).2.2.2 q F;simp at e;omega
 ·refine h.kb.trans' D (λi H aL=>?_);rcases N i H with rfl | H
  ·simp
  ·rcases h.fk i H with e | e
   ·simp[e]
   ·omega
 ·exact h.fk.trans I (by have:=h.kb.size;simp;omega)
theorem Fa.more{y cap}(h:Fa w W B wb e0 e1 e2 e3 e4 fv av bV bW n FP AP m l0 d k c wG iP Y fa ks)(KH:k<=1000000000)(hg:(W.alloc o).grownBy y (Value.slice d k c).ownBlock)(hr:y.ownsRow B 48 2 (.slice (some ⟨g,0,none⟩) (k+1) cap) (k+1) (oz m k++[.string m,.slice none 0 0]))(hf:aZ (W.alloc o) (.slice d k c) (.slice (some ⟨g,0,none⟩) (k+1) cap))
 (hc:∀b,(Value.slice d k c).ownBlock=some b->(∃t,y.heap[b]?=some (.cells t 48 (0,0)))/\∀j,j<k*2->y.cell? ⟨b,j,none⟩=(W.alloc o).cell? ⟨b,j,none⟩):Fa w y B wb e0 e1 e2 e3 e4 fv av bV bW n FP AP m l0 (some ⟨g,0,none⟩) (k+1) cap wG iP (Y++[⟨d,k,c,m⟩]) fa ks:=by
 have k0:Kb (Value.slice d k c).ownBlock.toList W (W.alloc o):=(Kb.refl _ W).alloc o;have I:Kb (Value.slice d k c).ownBlock.toList W y:=k0.trans (Kb.eS hg);have H:∀b,b∈(Value.slice d k c).ownBlock.toList->(Value.slice d k c).ownBlock=some b/\∃t,W.heap[b]?=some (.cells t 48 (0,0)):=λb u=>by
  have u:(Value.slice d k c).ownBlock=some b:=by simpa using u
  refine⟨u, ?_⟩;rcases h.row.2 with⟨e,_⟩ | ⟨O,c9,t,e,_,E,_⟩
  ·rw[e]at u;cases u
  ·rw[e]at u;cases u;exact⟨t,E⟩
 have wF:∀{T:TypeId},T≠48->∀b t fz,b∈(Value.slice d k c).ownBlock.toList->W.heap[b]?=some (.cells t T fz)->False:=λ{T} hT b t fz u e=>by
  obtain⟨_,U,e'⟩:=H b u;rw[e]at e';simp only[AT,aa1]at e';exact hT e'.2.1
 have dM:∀b j,(Value.slice d k c).ownBlock=some b->j<k*2->y.cell? ⟨b,j,none⟩=W.cell? ⟨b,j,none⟩:=λb j u hj=>by
  have F:=(hc b u).2 j hj;obtain⟨_,t,e⟩:=H b (by simp[u]);rw[F];exact adz (aay _ _ _ (lt_of_heap e))
 have hold:∀p:fh,NC W p->p.n<=k->NC y p:=λp F Z=>by
  refine⟨F.1,F.2.1,λi D=>?_,λq A=>aa7 (F.2.2.2 q A) I.size⟩;obtain⟨b,t,e,X,E,N⟩:=F.2.2.1 i D;by_cases u:(Value.slice d k c).ownBlock=some b
  ·obtain⟨U,J⟩:=(hc b u).1;refine⟨b,U,e,J, ?_, ?_⟩
   ·rw[<-aq J,dM b _ u (by omega),aq X];exact E
   ·rw[<-aq J,dM b _ u (by omega),aq X];exact N
  ·exact⟨b,t,e,I.heap X (λhm=>u (by simpa using hm)),E,N⟩
 have hx:NC W ⟨d,k,c,m⟩:=by
  refine⟨?_,KH,λi D=>?_,λq A=>?_⟩
  ·rcases h.row.2 with⟨e,e2⟩ | ⟨O,c9,t,e,_,_,J,_⟩
   ·grind
   ·grind
  ·have D:i<k:=D;obtain⟨O,e,_,_,E⟩:=aA h.row;obtain⟨r1,r2⟩:=G4 m D;have J:=E _ _ r1;have V:=E _ _ r2;obtain⟨_,t,M⟩:=H O (by simp[e,Value.ownBlock]);refine⟨O,t,e,M, ?_, ?_⟩
   ·rw[<-aq M];exact J
   ·rw[<-aq M];exact V
  ·obtain⟨_,t,M⟩:=H q (by have A:(Value.slice d k c).ownBlock=some q:=A;simp[A]);exact lt_of_heap M
 refine⟨h.rows.kb I (λb u=>?_),λp x=>?_,λp x=>(h.ns p x).kb I (λb u _ t fz=>wF (by decide) b t fz u),h.off, ?_, ?_,h.ff,h.fk,λp x=>?_,λq A=>?_⟩
 ·obtain⟨F,t,Z⟩:=H b u;refine⟨fM Z h.rows.aY,λU T fz e=>?_⟩;rw[Z]at e;simp only[AT,aa1]at e;obtain⟨_,rfl,_⟩:=e;grind
 ·rw[<-aa8]at x;rcases ZD.1 x with x | x
  ·rcases ZD.1 x with Xp | Xp
   ·exact(h.fs p x).kb I (λb u e _ _ _=>(h.lb b (H b u).1).2 p Xp e)
   ·exact hold p (h.fs p x) (h.yn p Xp)
  ·grind
 ·rw[tQ];exact hr
 ·refine h.kb.trans' I (λi D aL=>?_);rcases(h.lb i (H i D).1).1 with e | e
  ·simp[e]
  ·omega
 ·rcases ZD.1 x with x | x
  ·exact Nat.le_succ_of_le (h.yn p x)
  ·grind
 ·rcases hf q A with e | e
  ·exact h.lb q e
  ·have hs:=h.kb.size;simp at e;refine⟨.inr (by omega),λp x e9=>?_⟩;have:=(h.fs p (acH _ x)).2.2.2 q e9;omega
end
