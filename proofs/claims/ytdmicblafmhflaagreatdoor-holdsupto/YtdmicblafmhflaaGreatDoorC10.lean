/- axiomref: heads: the heads of all instances of a rule over a list of facts. -/
import Derived.Test.YtdmicblafmhflaaGreatDoorC09
set_option linter.unusedSimpArgs false
set_option linter.unusedVariables false
set_option maxHeartbeats 8000000
set_option maxRecDepth 100000
namespace Go.Proofs.YtdmicblafmhflaaGreatDoor
open Go.Proofs.Tryz Go.RowKit
variable{b:En.Bind}{xs:List ByteArray}{B:Nat}{i j:Value}{w W:World}
structure BW(w:World)(B:Nat)(vv nv:Value)(xs ys:List ByteArray)(W:World):Prop where
 v:W.ownsRow B 9 1 vv xs.length (strCells xs)
 n:W.ownsRow B 9 1 nv ys.length (strCells ys)
 ap:∀q,vv.ownBlock=some q->nv.ownBlock≠some q
 be:Below B w W
theorem BW.drewN{e}(h:BW w B i j xs e W)(q:Nat):BW w B i j xs e (W.drewN q):=⟨h.v,h.n,h.ap,below_drewN h.be q⟩
theorem BW.VT{t w2 o g cap x}(h:BW w B i j xs t W)(I:B<=W.heap.size)(u:(W.alloc o).grownBy w2 i.ownBlock)(F:w2.ownsRow B 9 1 (.slice (some ⟨g,0,none⟩) (xs.length+1) cap) (xs.length+1) (strCells xs++[.string x]))(D:i.ownBlock=some g\/g=W.heap.size+1):BW w B (.slice (some ⟨g,0,none⟩) (xs.length+1) cap) j (xs++[x]) t w2:=by
 refine⟨?_, ?_, ?_, ?_⟩
 ·simpa [strCells]using F
 ·refine(h.n.alloc o).kept u ?_;cases e:i.ownBlock with
  | none=>
   cases J:j.ownBlock with
   | none=>exact .inl rfl
   | some q=>exact .inr (by simp)
  | some q=>exact .inr (h.ap q e)
 ·intro q E e;have A:some g=some q:=E;simp only[AT]at A;subst A;rcases D with y | y
  ·exact h.ap g y e
  ·have:=(h.n.lt g e).2;omega
 ·exact(h.be.alloc I _).grown u (by simp;omega) (λk H=>(h.v.lt k H).1)
theorem BW.adg{t e w2 o g cap x}(h:BW w B t j xs e W)(E:B<=W.heap.size)(D:(W.alloc o).grownBy w2 j.ownBlock)(A:w2.ownsRow B 9 1 (.slice (some ⟨g,0,none⟩) (e.length+1) cap) (e.length+1) (strCells e++[.string x]))(y:j.ownBlock=some g\/g=W.heap.size+1):BW w B t (.slice (some ⟨g,0,none⟩) (e.length+1) cap) xs (e++[x]) w2:=by
 have H:BW w B j t e xs W:=⟨h.n,h.v,λq u i=>h.ap q i u,h.be⟩;have i:=H.VT E D A y;exact⟨i.n,i.v,λq u F=>i.ap q F u,i.be⟩
theorem PB{t}(h:(b.any λp=>decide (p.1=t))=false):En.val b t=En.ee:=by
 induction b with
 | nil=>rfl
 | cons p b ih=>
  rw[aeJ,Bool.or_eq_false_iff]at h;unfold En.val;rw[aaD (of_decide_eq_false h.1)];exact ih h.2
theorem Pm(i:En.Full b){t}(h:(b.any λp=>decide (p.1=t))=true):En.val b t≠En.ee:=by
 induction b with
 | nil=>cases h
 | cons p b ih=>
  unfold En.val;by_cases e:p.1=t
  ·rw[aa3 e];exact i p (by simp)
  ·rw[aaD e];rw[aeJ,aab e,aeT]at h;exact ih (λq j=>i q (by simp[j])) h
theorem I3{t i n ns}(j:t.kind=0\/t.kind=1)(y:t.kind=0->t.text≠En.ee)(w:En.Full b)(u:n≠En.ee):
 ((!isVar t||b.any λp=>decide (p.1=t.text))=true->En.bP (t::i) (n::ns) b=if En.dS (En.val b) t=n then En.bP i ns b else none)/\
 ((!isVar t||b.any λp=>decide (p.1=t.text))=false->En.bP (t::i) (n::ns) b=En.bP i ns (b++[(t.text,n)])):=by
 have x:En.bP (t::i) (n::ns) b=if En.dS (En.val b) t=n then En.bP i ns b else if En.dS (En.val b) t=En.ee then En.bP i ns (b++[(t.text,n)])else none:=by rw[En.bP]
 rw[x];generalize En.bP i ns b=X;generalize En.bP i ns (b++[(t.text,n)])=Y;unfold isVar En.dS;rcases j with j | j
 ·grind
 ·simp only[j,decide_true,Bool.not_true,aeT];refine⟨λh=>?_,λh=>?_⟩
  ·have:=Pm w h;simp[this]
  ·have:=PB h;have q:¬En.ee=n:=λe=>u e.symm;simp[this,q]
theorem pO{hd l}:∀(e:List Ax.Atom) (b:En.Bind),(Rf.fI hd l e b).length<=l.length^e.length
 | [],b=>by simp[Rf.fI]
 | a::e,b=>by
  have key:∀m:List En.ba,(m.flatMap λf=>match En.bO a f b with | some b'=>Rf.fI hd l e b' | none=>[]).length<=m.length*l.length^e.length:=by
   intro m
   induction m with
   | nil=>simp
   | cons f m ih=>
    rw[aaW,If,abL,Nat.add_mul,Nat.one_mul];have:(match En.bO a f b with | some b'=>Rf.fI hd l e b' | none=>[]).length<=l.length^e.length:=by
     cases En.bO a f b with
     | none=>simp
     | some b'=>exact pO e b'
    omega
  have:=key l;rw[abL,Nat.pow_succ,Nat.mul_comm];exact this
/- axiomref: heads, one atom of the body. -/
structure SF(r:QR)(l:List FI):Prop where
 af:∀x,x∈r.head::r.body->x.a.af.length<=1000/\∀t,t∈x.a.af->(t.kind=0\/t.kind=1)/\(t.kind=0->t.text≠En.ee)
 names:∀f,f∈l->∀x,x∈f.args->x≠En.ee
 fit:∀x,x∈r.body->∀f,f∈l->x.a.pred=f.pred->f.args.length=x.a.af.length
 my:l.length<=200
 two:r.body.length<=2
theorem I7{d c l}(h:w.ownsRow 0 277 4 (.slice d l.length c) l.length (cN l)){k}(i:k<l.length):∃g,d=some ⟨g,0,none⟩/\g<w.heap.size/\l.length<=c/\w.cell? ⟨g,k*4,none⟩=some (.string (l[k]).a.pred)/\w.cell? ⟨g,k*4+1,none⟩=some (.slice (l[k]).td (l[k]).a.af.length (l[k]).tc)/\w.cell? ⟨g,k*4+2,none⟩=some (.slice (l[k]).vd (l[k]).a.af.length (l[k]).vc)/\w.cell? ⟨g,k*4+3,none⟩=some (.int .i64 (l[k]).a.at_):=by
 obtain⟨g,e,t,q,j⟩:=aA h;obtain⟨c0,c1,c2,u⟩:=jD l k i;grind
theorem P3{t s a b c d e f g h}(j:Below ((w.alloc (.cells #[a,b,c,d,e] t)).alloc (.cells #[f,g,h,i] s)).heap.size ((w.alloc (.cells #[a,b,c,d,e] t)).alloc (.cells #[f,g,h,i] s)) W):Below w.heap.size w W/\w.heap.size+1<W.heap.size/\(W.cell? ⟨w.heap.size,0,none⟩=some a/\W.cell? ⟨w.heap.size,1,none⟩=some b/\W.cell? ⟨w.heap.size,2,none⟩=some c/\W.cell? ⟨w.heap.size,3,none⟩=some d/\W.cell? ⟨w.heap.size,4,none⟩=some e)/\W.cell? ⟨w.heap.size+1,0,none⟩=some f/\W.cell? ⟨w.heap.size+1,1,none⟩=some g/\W.cell? ⟨w.heap.size+1,2,none⟩=some h:=by
 have q:Below (w.alloc (.cells #[a,b,c,d,e] t)).heap.size (w.alloc (.cells #[a,b,c,d,e] t)) ((w.alloc (.cells #[a,b,c,d,e] t)).alloc (.cells #[f,g,h,i] s)):=aM;obtain⟨y,A,x⟩:=CU (q.trans (j.mono q.size));have u:W.heap[w.heap.size+1]?=some (.cells #[f,g,h,i] s (0,0)):=by
  rw[j.block _ (by simp)];have:=By (w.alloc (.cells #[a,b,c,d,e] t)) (.cells #[f,g,h,i] s);simpa using this
 refine⟨y,lt_of_heap u,x, ?_, ?_, ?_⟩<;>rw[aq u]<;>rfl
theorem Jx(w:World)(r:QR)(hr:r.ok w)(fd)(fc:Nat)(l)(hf:lZ w fd fc l)(hc:SF r l)(k:Nat)(hk:k<r.body.length)(b:En.Bind)(hb:En.Full b)(eB:b.length<=10000*k)(vv nv:Value)(hv:w.ownsRow 0 9 1 vv b.length (strCells (b.map Prod.fst)))(hn:w.ownsRow 0 9 1 nv b.length (strCells (b.map Prod.snd)))(D:Int)(hm:1000000*(r.body.length-k+1:Nat)<=D)(Ex:D<=1073741824)
 (IH:∀W (b':En.Bind) (v' n':Value) (G1:Int),Below w.heap.size w W->En.Full b'->b'.length<=10000*(k+1)->W.ownsRow 0 9 1 v' b'.length (strCells (b'.map Prod.fst))->W.ownsRow 0 9 1 n' b'.length (strCells (b'.map Prod.snd))->1000000*(r.body.length-(k+1)+1:Nat)<=G1->G1<=1073741824->
   Calls prog 154 #[.agg #[.string r.head.a.pred,.slice r.head.td r.head.a.af.length r.head.tc,.slice r.head.vd r.head.a.af.length r.head.vc,.int .i64 r.head.a.at_,.slice r.bd r.body.length r.bc],.int .i64 (k+1:Nat),.slice fd l.length fc,v',n',.int .i64 G1] W λe w'=>Bt W (Rf.fI r.head.a (l.map FI.f) ((r.body.drop (k+1)).map QA.a) b') e w'):
 Calls prog 154 #[.agg #[.string r.head.a.pred,.slice r.head.td r.head.a.af.length r.head.tc,.slice r.head.vd r.head.a.af.length r.head.vc,.int .i64 r.head.a.at_,.slice r.bd r.body.length r.bc],.int .i64 (k:Nat),.slice fd l.length fc,vv,nv,.int .i64 D] w λe w'=>Bt w (Rf.fI r.head.a (l.map FI.f) ((r.body.drop k).map QA.a) b) e w':=by
 rcases r with⟨⟨B,Vd,Sz,Zp,Zy⟩,bd,bc,body⟩;obtain⟨_,hbo,pR⟩:=hr;simp only at hbo pR hk hm IH ⊢;have Yl:body.length<=2:=hc.two;have adA:=hc.my;obtain⟨i0,fC,cE,ch,cz⟩:=abF Tryz.jC;have J:Hid (prog.info? 9=some i0/\i0.zero=some (.string ByteArray.empty)/\i0.size=1/\i0.bytes=16):=⟨fC,cE,ch,cz⟩;clear fC cE ch cz;obtain⟨i1,fC,cE,ch,cz⟩:=abF Tryz.kI;have HJ:Hid (prog.info? 48=some i1/\i1.zero=some (.agg #[.string ByteArray.empty,.slice none 0 0])/\i1.size=2/\i1.bytes=40):=⟨fC,cE,ch,cz⟩;clear fC cE ch cz;have dE:(body.drop k).map QA.a=(body[k]).a::(body.drop (k+1)).map QA.a:=by rw[aan hk,abn]
 rw[dE];have gy:=IN hk;obtain⟨bg,rfl,K7,yA,y0,y1,y2,y3⟩:=I7 hbo hk;have HA:Hid ((body[k]).ok w):=pR _ gy;have HTE:Hid ((body[k]).a.af.length<=1000/\∀t,t∈(body[k]).a.af->(t.kind=0\/t.kind=1)/\(t.kind=0->t.text≠En.ee)):=hc.af _ (by simp[gy]);have WO:Hid (∀f,f∈l->(body[k]).a.pred=f.pred->f.args.length=(body[k]).a.af.length):=hc.fit _ gy;have HNM:=aj hc.names;have cB:((k:Int)==(body.length:Int))=false:=ab1.2 (by omega);generalize body[k]=qa at*;rcases qa with⟨a,td,tc,vd,vc⟩;simp only at y0 y1 y2 y3 HA HTE WO ⊢;have HF:=aj hf;have HV:Hid (w.ownsRow 0 9 1 vv b.length (strCells (b.map Prod.fst))/\w.ownsRow 0 9 1 nv b.length (strCells (b.map Prod.snd))):=⟨hv,hn⟩;have HIH:=aj IH;have LP:Hid (∀b',(Rf.fI B (l.map FI.f) ((body.drop (k+1)).map QA.a) b').length<=200):=by
  intro b';refine aaK (pO _ _) ?_;simp only[aaL,acP];have h2:body.length-(k+1)<=1:=by omega
  exact aaK (Nat.pow_le_pow_left adA _) (aaK (Nat.pow_le_pow_right (by omega) h2) (by decide))
 generalize (body.drop (k+1)).map QA.a=X at*;obtain⟨vvd,vvc,rfl⟩:=ah hv;obtain⟨nvd,nvc,rfl⟩:=ah hn;have Sx:=aj hb;have hle:=hf.le;clear hv hn hf IH dE hbo pR hb gy hc
 go_enter func154,ntmps154
 go_wp2_with fail
 obtain⟨w2,pZ⟩:∃w2,w2=(w.alloc (.cells #[.string B.pred,.slice Vd B.af.length Sz,.slice Zp B.af.length Zy,.int .i64 B.at_,.slice (some ⟨bg,0,none⟩) body.length bc] 280)).alloc (.cells #[.string a.pred,.slice td a.af.length tc,.slice vd a.af.length vc,.int .i64 a.at_] 277):=⟨_,rfl⟩;rw[<-pZ];have HX:Hid (∀W,Below w2.heap.size w2 W->Below w.heap.size w W/\w.heap.size+1<W.heap.size/\(W.cell? ⟨w.heap.size,0,none⟩=some (.string B.pred)/\W.cell? ⟨w.heap.size,1,none⟩=some (.slice Vd B.af.length Sz)/\W.cell? ⟨w.heap.size,2,none⟩=some (.slice Zp B.af.length Zy)/\W.cell? ⟨w.heap.size,3,none⟩=some (.int .i64 B.at_)/\W.cell? ⟨w.heap.size,4,none⟩=some (.slice (some ⟨bg,0,none⟩) body.length bc))/\W.cell? ⟨w.heap.size+1,0,none⟩=some (.string a.pred)/\W.cell? ⟨w.heap.size+1,1,none⟩=some (.slice td a.af.length tc)/\W.cell? ⟨w.heap.size+1,2,none⟩=some (.slice vd a.af.length vc)):=by
  intro W h;rw[pZ]at h;exact P3 h
 have mM:Hid (Below w.heap.size w w2):=(HX.out w2 (aaj _ _)).1;clear pZ y0 y1 y2 y3
 go_loopw [17,19] (λov iv wr=>∃(i:Nat) (M:Option Addr) (N:Nat) (out:List FI),i<=l.length/\iv=.int .i64 i/\ov=.slice M out.length N/\Hid (bl wr w2.heap.size M N out/\out.map FI.f=((l.map FI.f).take i).flatMap (λf=>match En.bO a f b with | some b'=>Rf.fI B (l.map FI.f) X b' | none=>[])/\Below w2.heap.size w2 wr)) (λ_ iv _=>l.length-(intOf iv).toNat)
 ·exact⟨0,none,0,[],IS _,rfl,rfl,bl.nil _ _,by simp,aaj _ _⟩
 ·
  obtain⟨i,M,N,out,hi,rfl,rfl,H⟩:=hrel;obtain⟨aF,aL,⟨x0,x1,x2,x3,x4⟩,u0,u1,u2⟩:=HX.out wr H.out.2.2;have lf:=H.out.2.2.size;have HOL:Hid (out.length<=i*200):=by
   have y:=abu List.length H.out.2.1;rw[aaL]at y;rw[y];have h8:∀m:List En.ba,(m.flatMap (λf=>match En.bO a f b with | some b'=>Rf.fI B (l.map FI.f) X b' | none=>[])).length<=m.length*200:=by
    intro m
    induction m with
    | nil=>simp
    | cons f m ih=>
     rw[aaW,If,abL];have:(match En.bO a f b with | some b'=>Rf.fI B (l.map FI.f) X b' | none=>[]).length<=200:=by
      cases En.bO a f b with
      | none=>simp
      | some b'=>exact LP.out b'
     omega
   refine aaK (h8 _) ?_;rw[abv,aaL];omega
  by_cases h1:i<l.length
  ·have gD:decide ((i:Int)<l.length)=true:=aap (by omega);have jE:=HOL.out;have ib:decide ((out.length:Int)<D)=true:=aap (by omega);obtain⟨g,rfl,hg,wQ,c0,c1⟩:=(HF.out.below aF).at_ h1;have gy:=IN h1;obtain⟨yd,yc,nw⟩:=ah (HF.out.each _ gy);rw[nw]at c1;have VC:Hid (w.ownsRow 0 9 1 (.slice yd (l[i]).args.length yc) (l[i]).args.length (strCells (l[i]).args)):=by
    have y:=HF.out.each _ gy;unfold FI.ok at y;rw[nw]at y;exact y
   have QM:Hid (∀x,x∈(l[i]).args->x≠En.ee):=HNM.out _ gy;have G7:Hid (a.pred=(l[i]).pred->(l[i]).args.length=a.af.length):=WO.out _ gy;have tL:Hid (((l.map FI.f).take (i+1)).flatMap (λf=>match En.bO a f b with | some b'=>Rf.fI B (l.map FI.f) X b' | none=>[])=((l.map FI.f).take i).flatMap (λf=>match En.bO a f b with | some b'=>Rf.fI B (l.map FI.f) X b' | none=>[])++(match (if a.pred=(l[i]).pred then En.bP a.af (l[i]).args b else none)with | some b'=>Rf.fI B (l.map FI.f) X b' | none=>[])):=by
    show _=_;rw[aaZ,AS (by simpa using h1),abQ];simp[En.bO,FI.f]
   have RR:Hid (∀W,Below w.heap.size w W->g<W.heap.size/\W.cell? ⟨g,i*2+1,none⟩=some (.slice yd (l[i]).args.length yc)):=by
    intro W hW;obtain⟨g',e,q1,_,_,q2⟩:=(HF.out.below hW).at_ h1;simp only[AT,aco,aex]at e;subst e;rw[nw]at q2;exact⟨q1,q2⟩
   have i1:(0:Int)<=(i:Int):=by omega
   have i2:(i:Int)<l.length:=by omega
   generalize (l[i]).args=fa at*;generalize (l[i]).pred=fp at*;clear nw gy;by_cases hp:fp=a.pred
   ·subst hp;have Sm:Hid (((l.map FI.f).take (i+1)).flatMap (λf=>match En.bO a f b with | some b'=>Rf.fI B (l.map FI.f) X b' | none=>[])=((l.map FI.f).take i).flatMap (λf=>match En.bO a f b with | some b'=>Rf.fI B (l.map FI.f) X b' | none=>[])++(match En.bP a.af fa b with | some b'=>Rf.fI B (l.map FI.f) X b' | none=>[])):=by
     have y:=tL.out;rw[aa3 rfl]at y;exact y
    have Vn:fa.length=a.af.length:=G7.out rfl;have hta:=HTE.out.1;clear tL G7
    go_upto_region 14 with fail
    go_quiet (fail)
    have H3:Hid (bl (wr.drewN nq) w2.heap.size M N out/\Below w2.heap.size w2 (wr.drewN nq)):=⟨⟨H.out.1.row,H.out.1.each⟩,below_drewN H.out.2.2 nq⟩;have HOF:=H.out.2.1;have TJ:=aj HOF;have dp:Below w.heap.size w (wr.drewN nq):=below_drewN aF nq;have GS:w2.heap.size<=(wr.drewN nq).heap.size:=lf;clear HOF H aF x0 x1 x2 x3 x4 u0 u1 u2 c0 c1 aL hg;generalize wr.drewN nq=A at*;have HV3:Hid (A.ownsRow 0 9 1 (.slice vvd b.length vvc) b.length (strCells (b.map Prod.fst))/\A.ownsRow 0 9 1 (.slice nvd b.length nvc) b.length (strCells (b.map Prod.snd))):=⟨ae HV.out.1 dp,ae HV.out.2 dp⟩;have rM:Hid ((∀u∈strCells (b.map Prod.fst),u.oneCell'=true)/\∀u∈strCells (b.map Prod.snd),u.oneCell'=true):=⟨ku _,ku _⟩;have aqU:b.length<=20000:=by omega
    go_wp2_with (first | (at_builtin;refine fu rfl (.tmp 95) (.tmp 96) 46 rfl A.heap.size 9 i0 _ 1 16 ab2 J.out.1 J.out.2.1 J.out.2.2.1 J.out.2.2.2 rfl (by decide) (.slice none 0 0) 0 [] rfl (aaM _ _ _ _) 0 _ b.length (strCells (b.map Prod.fst)) rfl HV3.out.1 rM.out.1 eI (by omega) (by omega) ?_;intro v4 w4 dL dv;rw[acm,acp]at dL;obtain⟨Vu,UI,rfl⟩:=ah dL;have jL:=iY dv;have HV4:Hid (w4.ownsRow 0 9 1 (.slice nvd b.length nvc) b.length (strCells (b.map Prod.snd))):=ae HV3.out.2 jL) | (at_builtin;refine fu rfl (.tmp 98) (.tmp 99) 46 rfl w4.heap.size 9 i0 _ 1 16 ab2 J.out.1 J.out.2.1 J.out.2.2.1 J.out.2.2.2 rfl (by decide) (.slice none 0 0) 0 [] rfl (aaM _ _ _ _) 0 _ b.length (strCells (b.map Prod.snd)) rfl HV4.out rM.out.2 eI (by omega) (by omega) ?_;intro v5 w5 gB fB;rw[acm,acp]at gB;obtain⟨vd5,vc5,rfl⟩:=ah gB;have fR:=iY fB))
    have H5:Hid (BW A A.heap.size (.slice Vu b.length UI) (.slice vd5 b.length vc5) (b.map Prod.fst) (b.map Prod.snd) w5):=by
     refine⟨by simpa using ae dL fR,by simpa using aD gB jL.size,λq h1 h2=>?_,jL.trans (fR.mono jL.size)⟩;have:=(dL.lt q h1).2;have:=(gB.lt q h2).1;omega
    clear dL gB dv fB jL fR HV4 HV3
    go_loopw [20,21,22,23] (λvv nv ov jv wq=>∃(j:Nat) (b':En.Bind) (Y:Option Addr) (Z:Nat) (O:Option Addr) (U:Nat) (ok:Bool),j<=a.af.length/\jv=.int .i64 j/\vv=.slice Y (List.length b') Z/\nv=.slice O b'.length U/\ov=.bool ok/\b'.length<=b.length+j/\Hid (BW A A.heap.size (.slice Y b'.length Z) (.slice O b'.length U) (b'.map Prod.fst) (b'.map Prod.snd) wq/\En.Full b'/\En.bP a.af fa b=if ok=true then En.bP (a.af.drop j) (fa.drop j) b' else none)) (λ_ _ _ jv _=>a.af.length-(intOf jv).toNat)
    ·exact⟨0,b,Vu,UI,vd5,vc5,true,IS _,rfl,rfl,rfl,rfl,by omega,H5.out,Sx.out,by simp⟩
    ·
     obtain⟨j,b',Y,Z,O,U,ok,hj,rfl,rfl,rfl,rfl,hbj,V⟩:=hrel;clear H5;have G8:=V.out.1.be;have Gg:Below w.heap.size w wr:=dp.trans (G8.mono dp.size);have Dk:Below w2.heap.size w2 wr:=H3.out.2.trans (G8.mono H3.out.2.size);obtain⟨_,aL,⟨x0,x1,x2,x3,x4⟩,u0,u1,u2⟩:=HX.out wr Dk;obtain⟨hg,c1⟩:=RR.out wr Gg;have abV:=G8.size;have HFQ:Hid (bl wr w2.heap.size M N out):=H3.out.1.below G8;have abJ:=aj Dk;cases ok with
     | false=>
      have kG:Hid (bl wr w2.heap.size M N out/\out.map FI.f=((l.map FI.f).take (i+1)).flatMap (λf=>match En.bO a f b with | some b'=>Rf.fI B (l.map FI.f) X b' | none=>[])/\Below w2.heap.size w2 wr):=by
       refine⟨HFQ.out, ?_,Dk⟩;have y:=V.out.2.2;rw[aaD (by simp)]at y;rw[Sm.out,y,aby];exact TJ.out
      clear V Sm TJ H3 HX RR HIH G8 Gg Dk c1 hg;cases hdj:decide ((j:Int)<a.af.length)with
      | true=>
       go_wp2_with fail
       all_goals
        (go_roundw
         ·exact⟨i+1,M,N,out,h1,by go_num,rfl,kG.out⟩
         ·(simp[intOf];omega))
      | false=>
       go_wp2_with fail
       all_goals
        (go_roundw
         ·exact⟨i+1,M,N,out,h1,by go_num,rfl,kG.out⟩
         ·(simp[intOf];omega))
     | true=>
      by_cases h2:j<a.af.length
      ·have Up:decide ((j:Int)<a.af.length)=true:=aap (by omega);have hjf:j<fa.length:=by omega
       obtain⟨tg,rfl,lJ,ajF,Pb⟩:=aA (ae HA.out.1 Gg) (by simpa using(by omega:0<a.af.length));obtain⟨vg,rfl,Ww,afW,Oo⟩:=aA (ae HA.out.2 Gg) (by simpa using(by omega:0<a.af.length));obtain⟨yg,rfl,hyg,ajd,Z2⟩:=aA (ae VC.out Gg);have c2:=Pb j (.string (a.af[j]).text) (by simp[strCells,h2]);have c3:=Oo j (.bool (isVar a.af[j])) (by simp[dm,h2]);have c4:=Z2 j (.string fa[j]) (by simp[strCells,hjf]);simp only at ajF afW;have j1:(0:Int)<=(j:Int):=by omega
       have j2:(j:Int)<a.af.length:=by omega
       have j3:(j:Int)<fa.length:=by omega
       have Yi:=HTE.out.2 _ (IN h2);have HC:Hid (∀n,Calls prog 213 #[.string (a.af[j]).text,.bool (isVar a.af[j]),.slice Y b'.length Z,.slice O b'.length U] (wr.drewN n) λe w'=>e=.returned (.tuple #[.string (En.dS (En.val b') a.af[j]),.bool (!isVar a.af[j]||b'.any λp=>decide (p.1=(a.af[j]).text))])/\w'=wr.drewN n):=by
        intro n;have y:=BM (wr.drewN n) (a.af[j]).text (isVar a.af[j]) b' (.slice Y b'.length Z) (.slice O b'.length U) (by simpa using aD (V.out.1.drewN n).v (IS _)) (by simpa using aD (V.out.1.drewN n).n (IS _));rw[Fz b' Yi.1]at y;exact y
       have HBO:Hid (((!isVar a.af[j]||b'.any λp=>decide (p.1=(a.af[j]).text))=true->En.bP a.af fa b=if En.dS (En.val b') a.af[j]=fa[j]then En.bP (a.af.drop (j+1)) (fa.drop (j+1)) b' else none)/\((!isVar a.af[j]||b'.any λp=>decide (p.1=(a.af[j]).text))=false->En.bP a.af fa b=En.bP (a.af.drop (j+1)) (fa.drop (j+1)) (b'++[((a.af[j]).text,fa[j])]))):=by
        have y:=V.out.2.2;rw[aa3 rfl,aan h2,aan hjf]at y;rw[y];exact I3 Yi.1 Yi.2 V.out.2.1 (QM.out _ (IN hjf))
       have HNF:Hid (fa[j]≠En.ee):=QM.out _ (IN hjf);have Vl:Hid (∀W,Below A.heap.size A W->g<W.heap.size/\W.cell? ⟨g,i*2+1,none⟩=some (.slice (some ⟨yg,0,none⟩) fa.length yc)/\yg<W.heap.size/\W.cell? ⟨yg,j,none⟩=some (.string fa[j])):=by
        intro W hW;have xu:=dp.trans (hW.mono dp.size);obtain⟨q1,q2⟩:=RR.out W xu;obtain⟨yg',e,q3,_,q4⟩:=aA (ae VC.out xu);simp only[AT,aco,aex]at e;subst e;exact⟨q1,q2,q3,q4 j (.string fa[j]) (by simp[strCells,hjf])⟩
       generalize (!isVar a.af[j]||b'.any λp=>decide (p.1=(a.af[j]).text))=ub at*;generalize En.dS (En.val b') a.af[j]=tx at*;generalize (a.af[j]).text=F at*;generalize isVar a.af[j]=tv at*;generalize fa[j]=I at*;clear Pb Oo Z2 Yi x0 x1 x2 x3 x4 HIH LP
       go_upto_region 22 with fail
       go_quiet (first | (go_at_call 213;exact Calls.quiet_of_same (HC.out _)))
       have US:Hid (BW A A.heap.size (.slice Y b'.length Z) (.slice O b'.length U) (b'.map Prod.fst) (b'.map Prod.snd) (wr.drewN nq)/\En.Full b'):=⟨V.out.1.drewN nq,V.out.2.1⟩;have d1:(wr.drewN nq).cell? ⟨w.heap.size+1,1,none⟩=some (.slice (some ⟨tg,0,none⟩) a.af.length tc):=u1;have d2:(wr.drewN nq).cell? ⟨tg,j,none⟩=some (.string F):=c2;have dl1:w.heap.size+1<(wr.drewN nq).heap.size:=aL;have dl2:tg<(wr.drewN nq).heap.size:=lJ;have Wt:A.heap.size<=(wr.drewN nq).heap.size:=abV;obtain⟨g1,g2,g3,g4⟩:=Vl.out _ US.out.1.be;clear G8 Gg Dk c1 c2 c3 c4 u0 u1 u2 hg aL lJ Ww hyg abV HC V HFQ abJ;generalize wr.drewN nq=w6 at*;cases ub with
       | true=>
        have Zd:=HBO.out.1 rfl;by_cases he:tx=I
        ·subst he;have kG:Hid (En.bP a.af fa b=if true=true then En.bP (a.af.drop (j+1)) (fa.drop (j+1)) b' else none):=by
          have y:=Zd;rw[aa3 rfl]at y;rw[aa3 rfl];exact y
         clear Zd HBO
         go_wp2_with fail
         all_goals
          (go_roundw
           ·exact⟨j+1,b',Y,Z,O,U,true,h2,by go_num,rfl,rfl,by first | rfl | simp,by omega,US.out.1,US.out.2,kG.out⟩
           ·(simp[intOf];omega))
        ·have hq:(tx.toList==I.toList)=false:=by
          rw[ab1];exact λe=>he (Tb.toList_inj e)
         have kG:Hid (En.bP a.af fa b=if false=true then En.bP (a.af.drop (j+1)) (fa.drop (j+1)) b' else none):=by
          have y:=Zd;rw[aaD he]at y;rw[aaD (by simp)];exact y
         clear Zd HBO
         go_wp2_with fail
         all_goals
          (go_roundw
           ·exact⟨j+1,b',Y,Z,O,U,false,h2,by go_num,rfl,rfl,by first | rfl | simp,by omega,US.out.1,US.out.2,kG.out⟩
           ·(simp[intOf];omega))
       | false=>
        have Zd:Hid (En.bP a.af fa b=if true=true then En.bP (a.af.drop (j+1)) (fa.drop (j+1)) (b'++[(F,I)])else none):=by
         have y:=HBO.out.2 rfl;rw[aa3 rfl];exact y
        have HFU:Hid (En.Full (b'++[(F,I)])):=En.BV US.out.2 F HNF.out;have HSV:Hid (∀E g7 c7,(w6.alloc (.cells #[.string F] 9)).grownBy E (Value.slice Y b'.length Z).ownBlock->E.ownsRow A.heap.size 9 1 (.slice (some ⟨g7,0,none⟩) (b'.length+1) c7) (b'.length+1) (strCells (b'.map Prod.fst)++[.string F])->((Value.slice Y b'.length Z).ownBlock=some g7\/g7=w6.heap.size+1)->BW A A.heap.size (.slice (some ⟨g7,0,none⟩) (b'.length+1) c7) (.slice O b'.length U) (b'.map Prod.fst++[F]) (b'.map Prod.snd) E):=by
         intro E g7 c7 q1 q2 q3;have y:=US.out.1.VT (x:=F) Wt q1 (by simpa using q2) q3;simpa using y
        have HSN:Hid (∀E v7 w8 g8 c8,BW A A.heap.size v7 (.slice O b'.length U) (b'.map Prod.fst++[F]) (b'.map Prod.snd) E->(E.alloc (.cells #[.string I] 9)).grownBy w8 (Value.slice O b'.length U).ownBlock->w8.ownsRow A.heap.size 9 1 (.slice (some ⟨g8,0,none⟩) (b'.length+1) c8) (b'.length+1) (strCells (b'.map Prod.snd)++[.string I])->((Value.slice O b'.length U).ownBlock=some g8\/g8=E.heap.size+1)->Hid (BW A A.heap.size v7 (.slice (some ⟨g8,0,none⟩) (b'++[(F,I)]).length c8) ((b'++[(F,I)]).map Prod.fst) ((b'++[(F,I)]).map Prod.snd) w8)):=by
         intro E v7 w8 g8 c8 q0 q1 q2 q3;have y:=q0.adg (x:=I) q0.be.size q1 (by simpa using q2) q3;have h8:BW A A.heap.size v7 (.slice (some ⟨g8,0,none⟩) (b'++[(F,I)]).length c8) ((b'++[(F,I)]).map Prod.fst) ((b'++[(F,I)]).map Prod.snd) w8:=by simpa using y
         exact h8
        have hov:w6.ownsRow A.heap.size 9 1 (.slice Y b'.length Z) b'.length (strCells (b'.map Prod.fst)):=by simpa using US.out.1.v
        have HOV:=aj hov;clear hov;clear HBO
        go_wp2_with (first | (at_builtin;refine aer _ rfl (.tmp 138) (.tmp 144) 46 rfl A.heap.size 9 i0 _ 1 16 ab2 J.out.1 J.out.2.1 J.out.2.2.1 J.out.2.2.2 rfl (by decide) (.slice Y b'.length Z) b'.length (strCells (b'.map Prod.fst)) rfl (HOV.out.alloc _) ⟨w6.heap.size,0,none⟩ 1 1 [.string F] rfl rfl (dn _ _ _) (by simp[Value.oneCell']) (by decide) eI (by omega) (by simp;omega) (w6.heap.size+1) (by simp) ?_;intro g7 c7 E G2 CM ad7 _;have H7:=HSV.out E g7 c7 CM G2 ad7;have H7h:=aj H7;obtain⟨e1,e2,e3,e4⟩:=Vl.out E H7.be;have apB:=H7.be.size;have adD:E.ownsRow A.heap.size 9 1 (.slice O b'.length U) b'.length (strCells (b'.map Prod.snd)):=(by simpa using H7.n);have ah9:=aj adD;clear adD;clear G2 CM ad7 H7) | (at_builtin;refine aer _ rfl (.tmp 146) (.tmp 155) 46 rfl A.heap.size 9 i0 _ 1 16 ab2 J.out.1 J.out.2.1 J.out.2.2.1 J.out.2.2.2 rfl (by decide) (.slice O b'.length U) b'.length (strCells (b'.map Prod.snd)) rfl (ah9.out.alloc _) ⟨E.heap.size,0,none⟩ 1 1 [.string I] rfl rfl (dn _ _ _) (by simp[Value.oneCell']) (by decide) eI (by omega) (by simp;omega) (E.heap.size+1) (by simp) ?_;intro g8 c8 w8 F8 Dq ahU _;have H8:=HSN.out E _ w8 g8 c8 H7h.out Dq F8 ahU))
        go_roundw
        ·
         have y:=H8.out;have nX:(b'++[(F,I)]).length=b'.length+1:=by simp
         exact⟨j+1,b'++[(F,I)],some ⟨g7,0,none⟩,c7,some ⟨g8,0,none⟩,c8,true,h2,by go_num,by rw[nX],by rw[nX],rfl,by rw[nX];omega,by rw[nX]at y ⊢;exact y,HFU.out,Zd.out⟩
        ·(simp[intOf];omega)
      ·have Up:decide ((j:Int)<a.af.length)=false:=aab (by omega);have HBM:Hid (En.bP a.af fa b=some b'):=by
        have y:=V.out.2.2;rw[aa3 rfl,abG (by omega)]at y;rw[y];unfold En.bP;rfl
       have hmo:IntKind.i64.wrap (D-(out.length:Int))=D-(out.length:Int):=by rw[aaR];omega
       have WT:Hid (Calls prog 154 #[.agg #[.string B.pred,.slice Vd B.af.length Sz,.slice Zp B.af.length Zy,.int .i64 B.at_,.slice (some ⟨bg,0,none⟩) body.length bc],.int .i64 (k+1:Nat),.slice (some ⟨g,0,none⟩) l.length fc,.slice Y b'.length Z,.slice O b'.length U,.int .i64 (D-(out.length:Int))] wr λe w'=>∃hd hc more,e=.returned (.slice hd (List.length more) hc)/\w'.ownsRow 0 48 2 (.slice hd more.length hc) more.length (ax more)/\w'.ownsRow w2.heap.size 48 2 (.slice M out.length N) out.length (ax out)/\(∀u∈ax more,u.oneCell'=true)/\more.length<=200/\w2.heap.size<=w'.heap.size/\(∀w6 od6 oc6,w'.grownBy w6 (Value.slice M out.length N).ownBlock->w6.ownsRow w2.heap.size 48 2 (.slice od6 (out.length+more.length) oc6) (out.length+more.length) (ax out++ax more)->Hid (bl w6 w2.heap.size od6 oc6 (out++more)/\(out++more).map FI.f=((l.map FI.f).take (i+1)).flatMap (λf=>match En.bO a f b with | some b'=>Rf.fI B (l.map FI.f) X b' | none=>[])/\Below w2.heap.size w2 w6))):=by
        refine(HIH.out wr b' _ _ _ Gg V.out.2.1 (by omega) (by simpa using aD V.out.1.v (IS _)) (by simpa using aD V.out.1.n (IS _)) (by omega) (by omega)).mono ?_;rintro e w' ⟨hd,hc,more,rfl,q1,q2,q3⟩;have q4:=HFQ.out.below q3;have q5:Below w2.heap.size w2 w':=Dk.trans (q3.mono Dk.size);refine⟨hd,hc,more,rfl,aD q1.row (IS _),q4.row,vx q1, ?_,q5.size, ?_⟩
        ·have y:=LP.out b';rw[<-q2,aaL]at y;exact y
        ·intro w6 od6 oc6 uM how;refine⟨q4.app (λf hf=>aD (q1.each f hf) Dk.size) uM how, ?_,q5.grown uM q5.size (λq hq=>(q4.row.lt q hq).1)⟩;rw[aa6,TJ.out,q2,Sm.out,HBM.out]
       clear V Sm TJ H3 HX RR HIH G8 Gg Dk c1 hg HFQ abJ HBM
       go_wp2_with (first | (go_at_call 154;refine WT.out.mono ?_;rintro e w6 ⟨hd6,U6,more,rfl,p1,p2,p3,p4,p5,kG⟩) | (at_builtin;refine fu rfl (.tmp 169) (.tmp 170) 37 rfl w2.heap.size 48 _ _ 2 40 abX HJ.out.1 HJ.out.2.1 HJ.out.2.2.1 HJ.out.2.2.2 rfl (by decide) (.slice M out.length N) out.length (ax out) rfl p2 0 _ more.length (ax more) rfl p1 p3 eI (by omega) p5 ?_;intro v7 E G2 CM;obtain⟨od7,oc7,rfl⟩:=ah G2;have HN7:=kG E od7 oc7 CM G2))
       go_roundw
       ·exact⟨i+1,od7,oc7,out++more,h1,by go_num,by rw[If],HN7⟩
       ·(simp[intOf];omega)
   ·have hq:(fp.toList==a.pred.toList)=false:=by
     rw[ab1];exact λe=>hp (Tb.toList_inj e)
    have kG:Hid (∀q,bl (wr.drewN q) w2.heap.size M N out/\out.map FI.f=((l.map FI.f).take (i+1)).flatMap (λf=>match En.bO a f b with | some b'=>Rf.fI B (l.map FI.f) X b' | none=>[])/\Below w2.heap.size w2 (wr.drewN q)):=by
     intro q;refine⟨⟨H.out.1.row,H.out.1.each⟩, ?_,below_drewN H.out.2.2 q⟩;rw[tL.out,aaD (λe=>hp e.symm),aby];exact H.out.2.1
    clear tL G7 H RR
    go_upto_region 14 with fail
    go_quiet (fail)
    go_wp2_with fail
    all_goals
     (go_roundw
      ·exact⟨i+1,M,N,out,h1,by go_num,rfl,kG.out _⟩
      ·(simp[intOf];omega))
  ·have gD:decide ((i:Int)<l.length)=false:=aab (by omega);have HEN:Hid (bl wr w.heap.size M N out/\out.map FI.f=Rf.fI B (l.map FI.f) (a::X) b/\Below w.heap.size w wr):=by
    obtain⟨g1,g2,g3⟩:=H.out;rw[aaP (by simp;omega)]at g2;exact⟨g1.base mM.out.size,g2,aF⟩
   clear H aF x0 x1 x2 x3 x4 u0 u1 u2 HOL
   go_wp2_with fail
   go_ret;exact⟨M,N,out,rfl,HEN.out⟩
/- axiomref: heads, whole. -/
theorem B6(r:QR)(fd)(fc:Nat)(l)(x:SF r l):∀(n k:Nat),k+n=r.body.length->∀(w:World),r.ok w->lZ w fd fc l->∀(b:En.Bind) (j q:Value) (i:Int),En.Full b->b.length<=10000*k->w.ownsRow 0 9 1 j b.length (strCells (b.map Prod.fst))->w.ownsRow 0 9 1 q b.length (strCells (b.map Prod.snd))->1000000*(n+1:Nat)<=i->i<=1073741824->
 Calls prog 154 #[.agg #[.string r.head.a.pred,.slice r.head.td r.head.a.af.length r.head.tc,.slice r.head.vd r.head.a.af.length r.head.vc,.int .i64 r.head.a.at_,.slice r.bd r.body.length r.bc],.int .i64 (k:Nat),.slice fd l.length fc,j,q,.int .i64 i] w λe w'=>Bt w (Rf.fI r.head.a (l.map FI.f) ((r.body.drop k).map QA.a) b) e w'
 | 0,k,N,w,u,B,b,j,q,i,E,I,y,A,hm,J=>by
  obtain rfl:k=r.body.length:=by omega
  rw[List.drop_length];have D:=x.af r.head (by simp);exact Nu w r u (λt h=>(D.2 t h).1) D.1 (by have:=x.two;omega) b j q y A i
 | n+1,k,N,w,u,B,b,j,q,i,E,I,y,A,hm,J=>by
  have e1:r.body.length-k=n+1:=by omega
  have Z:r.body.length-(k+1)=n:=by omega
  refine Jx w r u fd fc l B x k (by omega) b E I j q y A i (by rw[e1];exact hm) J ?_;intro W b' v' M G1 F Y X V U H O;rw[Z]at H;exact B6 r fd fc l x n (k+1) (by omega) W (QR.below u F) (B.below F) b' v' M G1 Y X V U H O
theorem Cc(w:World)(r:QR)(j:r.ok w)(fd)(fc:Nat)(l)(t:lZ w fd fc l)(i:SF r l):
 Calls prog 154 #[.agg #[.string r.head.a.pred,.slice r.head.td r.head.a.af.length r.head.tc,.slice r.head.vd r.head.a.af.length r.head.vc,.int .i64 r.head.a.at_,.slice r.bd r.body.length r.bc],.int .i64 0,.slice fd l.length fc,.slice none 0 0,.slice none 0 0,.int .i64 1073741824] w λe w'=>Bt w (Rf.fI r.aw.head (l.map FI.f) r.aw.body []) e w':=by
 have u:=i.two;have h:=B6 r fd fc l i r.body.length 0 (by omega) w j t [] (.slice none 0 0) (.slice none 0 0) 1073741824 (λp q=>by cases q) (by simp) (aaM _ _ _ _) (aaM _ _ _ _) (by omega) (by omega);rw[aeN]at h;exact h
/- axiomref: bucket. -/
namespace Rf
def Az(s:ByteArray):Nat->Nat
 | 0=>0
 | i+1=>(31*Az s i+Ax.byte s i)%256
theorem KY{s}:∀i,Az s i<256
 | 0=>Nat.zero_lt_succ _
 | i+1=>Nat.mod_lt _ (by decide)
def bkS(p:ByteArray)(a:List ByteArray):ByteArray:=a.foldl (λs x=>s++(⟨#[44]⟩:ByteArray)++x) p
def bk(f:En.ba):Nat:=Az (bkS f.1 f.2) (bkS f.1 f.2).size
theorem KL(f):bk f<256:=KY _
end Rf
theorem xZ(w p a){av}(y:w.ownsRow 0 9 1 av a.length (strCells a))(hp:p.size<=1000)(hl:a.length<=1000)(hs:∀x,x∈a->x.size<=1000):
 Calls prog 212 #[.agg #[.string p,av]] w λe w'=>e=.returned (.int .i64 (Rf.bk (p,a):Nat))/\w'=w.alloc (.cells #[.string p,av] 48):=by
 obtain⟨ad,ac,rfl⟩:=ah y;obtain⟨w1,q⟩:∃w1,w1=w.alloc (.cells #[.string p,.slice ad a.length ac] 48):=⟨_,rfl⟩;have D:w1.heap[w.heap.size]?=some (.cells #[.string p,.slice ad a.length ac] 48 (0,0)):=by rw[q];exact By w _
 obtain⟨x0,x1,_,_,rE⟩:=bG D;have M:Hid (w1.ownsRow 0 9 1 (.slice ad a.length ac) a.length (strCells a)):=by rw[q];exact y.alloc _
 have N:=aj hs;have Eu:=aj q;generalize A:Rf.bkS p a=S;have E:Rf.bk (p,a)=Rf.Az S S.size:=by unfold Rf.bk;rw[A]
 rw[E];clear y hs D E
 go_enter func212,ntmps212
 go_wp2_with fail
 rw[<-q];clear q
 go_loopw [4,5] (λO iv wr=>∃(k:Nat) (s:ByteArray),k<=a.length/\iv=.int .i64 k/\O=.string s/\s.size<=1000+1001*k/\wr=w1/\Hid (Rf.bkS s (a.drop k)=S)) (λ_ iv _=>a.length-(intOf iv).toNat)
 ·exact⟨0,p,IS _,rfl,rfl,by omega,rfl,A⟩
 ·
  obtain⟨k,s,hk,rfl,rfl,cp,rfl,H⟩:=hrel;clear A;by_cases t:k<a.length
  ·have X:decide ((k:Int)<a.length)=true:=aap (by omega);obtain⟨g,rfl,hg,hc,J⟩:=aA M.out;have c1:=J _ _ (fy a k t);have W:=N.out _ (IN t);have Y:Hid (Rf.bkS (s++(⟨#[44]⟩:ByteArray)++a[k]) (a.drop (k+1))=S):=by
    have j:=H.out;rw[aan t]at j;exact j
   have i1:(0:Int)<=(k:Int):=by omega
   have i2:(k:Int)<a.length:=by omega
   have I:(⟨#[44]⟩:ByteArray).size=1:=rfl;have B:Hid ((s++(⟨#[44]⟩:ByteArray)++a[k]).size<=1000+1001*(k+1)):=by
    show _<=_;rw[acn,acn,I];omega
   have cz:(s++(⟨#[44]⟩:ByteArray)).size=s.size+1:=by rw[acn,I]
   clear J H;generalize a[k]=x at*
   go_wp2_with fail
   go_roundw
   ·exact⟨k+1,s++(⟨#[44]⟩:ByteArray)++x,t,by go_num,rfl,B.out,trivial,Y.out⟩
   ·(simp[intOf];omega)
  ·have X:decide ((k:Int)<a.length)=false:=aab (by omega);have u:s=S:=by
    have j:=H.out;rw[abG (by omega)]at j;exact j
   subst u;have VE:s.size<=2000000:=by omega
   clear H M N
   go_wp2_with fail
   go_loopw [3,6] (λU iv wq=>∃(i:Nat),i<=s.size/\iv=.int .i64 i/\U=.int .i64 (Rf.Az s i:Nat)/\wq=wr) (λ_ iv _=>s.size-(intOf iv).toNat)
   ·exact⟨0,IS _,rfl,rfl,rfl⟩
   ·
    obtain⟨i,hi,rfl,rfl,rfl⟩:=hrel;by_cases F:i<s.size
    ·have V:decide ((i:Int)<s.size)=true:=aap (by omega);have eB:=Ax.fQ s i;have hb:=Ax.ej s i F;have aL:=Rf.KY (s:=s) i;have Z:Hid (((Rf.Az s (i+1):Nat):Int)=(31*(Rf.Az s i:Int)+(Ax.byte s i:Int))%256):=by
      show((Rf.Az s (i+1):Nat):Int)=_;rw[Rf.Az];omega
     generalize Rf.Az s i=n at*;generalize Ax.byte s i=c at*
     go_wp2_with fail
     go_roundw
     ·exact⟨i+1,F,by go_num,by rw[Z.out],trivial⟩
     ·(simp[intOf];omega)
    ·have V:decide ((i:Int)<s.size)=false:=aab (by omega);obtain rfl:i=s.size:=by omega
     go_wp2_with fail
     go_ret;exact⟨rfl,Eu.out⟩
variable{L:List FI}{i B fc g:Nat}{fd:Option Addr}{w:World}
namespace Rf
def idx(L:List En.ba)(k:Nat):List Nat:=(List.range L.length).filter λi=>match L[i]? with | some f=>decide (bk f=k) | none=>false
theorem T4{L k}:i∈idx L k↔∃f,L[i]?=some f/\bk f=k:=by grind [idx]
theorem O5(L f k):idx (L++[f]) k=if bk f=k then idx L k++[L.length]else idx L k:=by
 unfold idx;rw[If,ab6,List.range_succ,List.filter_append];have e:(List.range L.length).filter (λi=>match (L++[f])[i]? with | some f=>decide (bk f=k) | none=>false)=(List.range L.length).filter (λi=>match L[i]? with | some f=>decide (bk f=k) | none=>false):=by
  apply List.filter_congr;intro i j;rw[acx (List.mem_range.1 j)]
 rw[e];by_cases h:bk f=k
 ·rw[aa3 h];simp[h]
 ·rw[aaD h];simp[h]
theorem Kx(L k):(idx L k).length<=L.length:=by grind [idx]
end Rf
def bM(l:List Nat):List Value:=l.map λn=>.int .i64 (n:Nat)
theorem sN(l k)(h:k<l.length):(bM l)[k]?=some (.int .i64 (l[k]:Nat)):=by simp[bM,h]
structure cu(w:World)(B sh:Nat)(fd:Option Addr)(fc:Nat)(L:List FI)(by_:Nat->Value):Prop where
 aY:∃cs,w.heap[sh]?=some (.cells cs 273 (0,0))/\cs.size=257
 c0:w.cell? ⟨sh,0,none⟩=some (.slice fd L.length fc)
 cb:∀k,k<256->w.cell? ⟨sh,1+k,none⟩=some (by_ k)
 row:w.ownsRow B 48 2 (.slice fd L.length fc) L.length (ax L)
 each:∀f,f∈L->f.ok w
 rows:∀k,k<256->w.ownsRow B 3 1 (by_ k) (Rf.idx (L.map FI.f) k).length (bM (Rf.idx (L.map FI.f) k))
 apart:∀k,k<256->∀m,m<256->k≠m->∀q,(by_ k).ownBlock=some q->(by_ m).ownBlock≠some q
 ge:B<=sh
theorem cu.below{w' t}{i:Nat->Value}(h:cu w B t fd fc L i)(e:Below w.heap.size w w'):cu w' B t fd fc L i:=by
 obtain⟨cs,u,y⟩:=h.aY;have j:=lt_of_heap u;exact⟨⟨cs,by rw[e.block _ j];exact u,y⟩,by rw[e.cell j];exact h.c0,λk q=>by rw[e.cell j];exact h.cb k q,ae h.row e,λf x=>ae (h.each f x) e,λk q=>ae (h.rows k q) e,h.apart,h.ge⟩
theorem cu.KM{e:Nat->Value}(h:cu w B i fd fc L e):bJ w fd fc L:=⟨aD h.row (IS _),h.each⟩
structure FSm(f:En.ba):Prop where
 p:f.1.size<=1000
 n:f.2.length<=1000
 a:∀x,x∈f.2->x.size<=1000
theorem uD(w){A}(fd fc L)(u:Nat->Value)(h:cu w B A fd fc L u)(Hd:(L.map FI.f).Nodup){p a av}(Z:w.ownsRow 0 9 1 av a.length (strCells a))(hs:FSm (p,a))(hl:L.length<=1000:=by omega):
 Calls prog 155 #[.pointer (some ⟨A,0,none⟩),.agg #[.string p,av]] w λe w'=>e=.returned (.int .i64 (fS (L.map FI.f) (p,a)))/\Below w.heap.size w w':=by
 obtain⟨ad,ac,rfl⟩:=ah Z;obtain⟨cs,hblk,bA⟩:=h.aY;have Dm:=lt_of_heap hblk;have vj:=Rf.KL (p,a);obtain⟨w1,dA⟩:∃w1,w1=w.alloc (.cells #[.string p,.slice ad a.length ac] 48):=⟨_,rfl⟩;have Vj:Below w.heap.size w w1:=by rw[dA];exact aM
 have pK:w1.heap[w.heap.size]?=some (.cells #[.string p,.slice ad a.length ac] 48 (0,0)):=by rw[dA];exact By w _
 have VR:Hid (∀W,Below w.heap.size w W->Calls prog 212 #[.agg #[.string p,.slice ad a.length ac]] W λe w'=>e=.returned (.int .i64 (Rf.bk (p,a):Nat))/\Below W.heap.size W w'):=by
  intro W j;refine(xZ W p a (ae Z j) hs.p hs.n hs.a).mono ?_;rintro e w' ⟨rfl,rfl⟩;exact⟨rfl,aM⟩
 have Fc:Hid (∀W (x:FI),x∈L->Below w.heap.size w W->Calls prog 214 #[.agg #[.string x.pred,x.av],.agg #[.string p,.slice ad a.length ac]] W λe w'=>e=.returned (.bool (decide (x.f=(p,a))))/\Below W.heap.size W w'):=λW x hx j=>Qk W x.pred p x.args a x.av (ae (h.each x hx) j) (ae Z j);have H:Hid (∀W,Below w1.heap.size w1 W->Below w.heap.size w W/\w.heap.size<W.heap.size/\A<W.heap.size/\W.cell? ⟨w.heap.size,0,none⟩=some (.string p)/\W.cell? ⟨w.heap.size,1,none⟩=some (.slice ad a.length ac)/\W.cell? ⟨A,0,none⟩=some (.slice fd L.length fc)/\W.cell? ⟨A,1+Rf.bk (p,a),none⟩=some (u (Rf.bk (p,a)))):=by
  intro W j;have t:=Vj.trans (j.mono Vj.size);have e1:W.heap[w.heap.size]?=some (.cells #[.string p,.slice ad a.length ac] 48 (0,0)):=by rw[j.block _ (lt_of_heap pK)];exact pK
  obtain⟨q0,q1,_,_,q2⟩:=bG e1;exact⟨t,q2,aa7 Dm t.size,q0,q1,by rw[t.cell Dm];exact h.c0,by rw[t.cell Dm];exact h.cb _ vj⟩
 have HR:Hid (w.ownsRow 0 3 1 (u (Rf.bk (p,a))) (Rf.idx (L.map FI.f) (Rf.bk (p,a))).length (bM (Rf.idx (L.map FI.f) (Rf.bk (p,a))))):=aD (h.rows _ vj) (IS _);have HF:=aj h.KM;have HND:=aj Hd;have TK:Hid (∀i,i∈Rf.idx (L.map FI.f) (Rf.bk (p,a))↔∃f,(L.map FI.f)[i]?=some f/\Rf.bk f=Rf.bk (p,a)):=λi=>Rf.T4;have hil:(Rf.idx (L.map FI.f) (Rf.bk (p,a))).length<=1000:=aaK (Rf.Kx _ _) (by simpa using hl);generalize Rf.idx (L.map FI.f) (Rf.bk (p,a))=I at*;generalize u (Rf.bk (p,a))=bv at*;obtain⟨J,ic,rfl⟩:=ah HR.out;have ZG:Hid (Rf.bk (p,a)=Rf.bk (p,a)):=rfl;generalize uP:Rf.bk (p,a)=bn at*;clear pK hblk hs Z h Hd bA ZG
 go_enter func155,ntmps155
 go_upto_region 1 with fail
 rw[<-dA];clear dA;obtain⟨_,x1,x2,x3,x4,x5,x6⟩:=H.out w1 (aaj _ _);have j1:(0:Int)<=(bn:Int):=by omega
 have j2:(bn:Int)<256:=by omega
 have O:Hid (∀W,Below w1.heap.size w1 W->Calls prog 212 #[.agg #[.string p,.slice ad a.length ac]] W λe w'=>e=.returned (.int .i64 (bn:Nat))/\Hid (Below w1.heap.size w1 w')/\A<w'.heap.size/\w'.cell? ⟨A,1+bn,none⟩=some (.slice J I.length ic)):=by
  intro W j;refine(VR.out W (H.out W j).1).mono ?_;rintro e w' ⟨rfl,hb⟩;have M:=j.trans (hb.mono j.size);obtain⟨_,_,k2,_,_,_,k6⟩:=H.out w' M;exact⟨rfl,M,k2,k6⟩
 go_cut [5]from 8 (λv wx=>v=.slice J I.length ic/\Hid (Below w1.heap.size w1 wx))
 ·
  go_region_with (go_at_call 212;refine(O.out _ (by exact(aaj _ _).drew)).mono ?_;rintro e w5 ⟨rfl,fR,L4,c5⟩)
  all_goals (go_wp2_with fail;go_meet;exact⟨by rfl,fR⟩)
 ·
  obtain⟨rfl,yA⟩:=hcut;clear x1 x2 x3 x4 x5 x6 VR O
  go_wp2_with fail
  go_loopw [6] (λiv wr=>∃k:Nat,k<=I.length/\iv=.int .i64 k/\Hid (∀i,i∈I.take k->(L.map FI.f)[i]?≠some (p,a))/\Below w1.heap.size w1 wr) (λiv _=>I.length-(intOf iv).toNat)
  ·exact⟨0,IS _,rfl,λi q=>by simp at q,yA.out⟩
  ·
   obtain⟨k,hk,rfl,HT,E⟩:=hrel;obtain⟨V,x1,x2,x3,x4,x5,x6⟩:=H.out wr E;by_cases t:k<I.length
   ·have gD:decide ((k:Int)<I.length)=true:=aap (by omega);obtain⟨ig,rfl,hig,hic,N⟩:=aA (ae HR.out V);have c1:=N k _ (sN I k t);have HCI:Hid (∀W,Below w.heap.size w W->W.cell? ⟨ig,k,none⟩=some (.int .i64 (I[k]:Nat))/\ig<W.heap.size):=by
     intro W j;obtain⟨ig',e,q1,_,q2⟩:=aA (ae HR.out j);simp only[AT,aco,aex]at e;subst e;exact⟨q2 k _ (sN I k t),q1⟩
    obtain⟨f0,Jm,MJ⟩:=(TK.out _).1 (IN t);have F:I[k]<L.length:=by simpa using(abt.1 Jm).1
    obtain⟨g,rfl,hg,wQ,c2,c3⟩:=(HF.out.below V).at_ F;obtain⟨yd,yc,hy⟩:=ah (HF.out.each _ (IN F));have X:Hid (∀W,Below wr.heap.size wr W->Calls prog 214 #[.agg #[.string (L[I[k]]).pred,(L[I[k]]).av],.agg #[.string p,.slice ad a.length ac]] W λe w'=>e=.returned (.bool (decide ((L[I[k]]).f=(p,a))))/\Hid (Below w1.heap.size w1 w')):=by
     intro W j;have hw:=E.trans (j.mono E.size);refine(Fc.out W _ (IN F) (H.out W hw).1).mono ?_;rintro e w' ⟨rfl,hb⟩;exact⟨rfl,hw.trans (hb.mono hw.size)⟩
    have HY:Hid ((L[I[k]]).f=(p,a)->fS (L.map FI.f) (p,a)=(I[k]:Nat)):=by
     intro e;refine NY (by simpa using F) ?_ (by simpa using e);intro hm;have hn:=HND.out;rw[<-ab7 I[k] (L.map FI.f),adn]at hn;refine hn.2.2 _ hm (p,a) ?_ rfl;rw[aan (by simpa using F)];simp[e]
    have HN:Hid (¬(L[I[k]]).f=(p,a)->∀i,i∈I.take (k+1)->(L.map FI.f)[i]?≠some (p,a)):=by
     intro cB i q;rw[aaZ,AS t]at q;rcases ZD.1 q with q | q
     ·exact HT.out i q
     ·simp at q;subst q;rw[ab3,AS F];intro e;exact cB (adR e)
    generalize hD:decide ((L[I[k]]).f=(p,a))=D at*;have HD:=aj hD;have HNB:=aj V;rw[hy]at c3 X;have aqS:((I[k]:Nat):Int)<(L.length:Int):=by omega
    have i0:(0:Int)<=((I[k]:Nat):Int):=by omega
    have i1:(0:Int)<=(k:Int):=by omega
    have i2:(k:Int)<I.length:=by omega
    generalize (L[I[k]]).pred=y at*;generalize (L[I[k]]).args.length=yn at*;generalize I[k]=ik at*;have xx:=aj E;clear E V hD HT N Jm MJ hy Fc
    go_upto_region 5 with fail
    go_cut [7]from 15 to 37 (λcv wx=>cv=.bool D/\Hid (Below w1.heap.size w1 wx))
    ·
     go_region_with (go_at_call 214;refine(X.out _ (by exact(aaj _ _).drew)).mono ?_;rintro e w5 ⟨rfl,fR⟩)
     all_goals (go_wp2_with fail;go_meet;exact⟨by rfl,fR⟩)
    ·
     obtain⟨rfl,U⟩:=hcut;obtain⟨Kf,_⟩:=H.out wc U.out;obtain⟨cd,cl⟩:=HCI.out wc Kf;cases D with
     | true=>
      have Y:=HY.out (aei HD.out);have N8:=aj Kf;clear HY HN Kf
      go_wp2_with fail
      go_ret;exact⟨by rw[Y];rfl,N8.out⟩
     | false=>
      have Y:=HN.out (of_decide_eq_false HD.out);clear HY HN Kf
      go_wp2_with fail
      go_roundw
      ·exact⟨k+1,t,by go_num,Y,U.out⟩
      ·(simp[intOf];omega)
   ·have gD:decide ((k:Int)<I.length)=false:=aab (by omega);have Y:Hid (fS (L.map FI.f) (p,a)=-1):=by
     refine xV ?_;intro hm;obtain⟨i,q,e⟩:=acf hm;have M:=HT.out i;rw[aaP (by omega)]at M;have e2:(L.map FI.f)[i]?=some (p,a):=by rw[AS q,e]
     exact M ((TK.out i).2 ⟨(p,a),e2,uP⟩) e2
    clear E
    go_wp2_with fail
    go_ret;exact⟨by rw[Y.out];rfl,V⟩
/- axiomref: a shelf of facts; add. -/
theorem Tryz.E5:(prog.info? 3).map (λi=>(i.zero,i.size,i.bytes))=some (some (.int .i64 0),1,8):=by kernel_rfl
def eY(sh:Nat)(fv bv:Value):List Nat:=sh::(fv.ownBlock.toList++bv.ownBlock.toList)
def Kj(f:Nat->Value)(k:Nat)(v:Value):Nat->Value:=λm=>if m=k then v else f m
theorem sY{cs t}(h:w.heap[g]?=some (.cells cs t (0,0)))(v)(x:i<cs.size:=by omega):(w.setCell ⟨g,i,none⟩ v).cell? ⟨g,i,none⟩=some v/\∀j,j≠i->(w.setCell ⟨g,i,none⟩ v).cell? ⟨g,j,none⟩=w.cell? ⟨g,j,none⟩:=by
 have q:=heap_setCell_same (off:=i) h v;refine⟨?_,λj u=>?_⟩
 ·rw[aq q];simp[x]
 ·rw[aq q,aq h];rw[Array.getElem?_setIfInBounds,aaD (λe=>u e.symm)]
structure mQ(w:World)(B sh:Nat)(fd:Option Addr)(fc:Nat)(L:List FI)(by_:Nat->Value)(f:En.ba):Prop where
 aY:∃cs,w.heap[sh]?=some (.cells cs 273 (0,0))/\cs.size=257
 c0:w.cell? ⟨sh,0,none⟩=some (.slice fd L.length fc)
 cb:∀k,k<256->w.cell? ⟨sh,1+k,none⟩=some (by_ k)
 row:w.ownsRow B 48 2 (.slice fd L.length fc) L.length (ax L)
 each:∀f,f∈L->f.ok w
 rows:∀k,k<256->w.ownsRow B 3 1 (by_ k) (Rf.idx (L.map FI.f++[f]) k).length (bM (Rf.idx (L.map FI.f++[f]) k))
 apart:∀k,k<256->∀m,m<256->k≠m->∀q,(by_ k).ownBlock=some q->(by_ m).ownBlock≠some q
 ge:B<=sh
theorem cu.mid{W w2 u}{t:Nat->Value}{f k cap o}(h:cu W B u fd fc L t)(M:k<256)(hf:Rf.bk f=k)(E:(W.alloc o).grownBy w2 (t k).ownBlock)(ho:w2.ownsRow B 3 1 (.slice (some ⟨g,0,none⟩) ((Rf.idx (L.map FI.f) k).length+1) cap) ((Rf.idx (L.map FI.f) k).length+1) (bM (Rf.idx (L.map FI.f) k)++[.int .i64 (L.length:Nat)]))(pJ:(t k).ownBlock=some g\/g=W.heap.size+1):
 (∃cs,w2.heap[u]?=some (.cells cs 273 (0,0))/\cs.size=257)/\mQ (w2.setCell ⟨u,1+k,none⟩ (.slice (some ⟨g,0,none⟩) ((Rf.idx (L.map FI.f) k).length+1) cap)) B u fd fc L (Kj t k (.slice (some ⟨g,0,none⟩) ((Rf.idx (L.map FI.f) k).length+1) cap)) f/\Kb (eY u (.slice none 0 0) (t k)) W (w2.setCell ⟨u,1+k,none⟩ (.slice (some ⟨g,0,none⟩) ((Rf.idx (L.map FI.f) k).length+1) cap)):=by
 obtain⟨cs,H,Y⟩:=h.aY;have X:=lt_of_heap H;have O:∀q,(t k).ownBlock=some q->∃w fz,(W.alloc o).heap[q]?=some (.cells w 3 fz):=au ((h.rows k M).alloc o);have A:w2.heap[u]?=some (.cells cs 273 (0,0)):=by
  rw[E.block _ (by simp;omega) ?_,aay _ _ _ X,H];intro e;obtain⟨w,fz,Z⟩:=O u e.symm;rw[aay _ _ _ X,H]at Z;simp at Z
 have dM:∀j,w2.cell? ⟨u,j,none⟩=W.cell? ⟨u,j,none⟩:=λj=>by rw[aq A,aq H]
 obtain⟨s1,U⟩:=sY A (i:=1+k) (.slice (some ⟨g,0,none⟩) ((Rf.idx (L.map FI.f) k).length+1) cap);have J:w2.grownBy (w2.setCell ⟨u,1+k,none⟩ (.slice (some ⟨g,0,none⟩) ((Rf.idx (L.map FI.f) k).length+1) cap)) (some u):=grownBy_setCell _ _;have I:∀q,(some u:Option Nat)=some q->∃w fz,w2.heap[q]?=some (.cells w 273 fz):=λq hq=>by cases hq;exact⟨_,_,A⟩
 generalize Zu:(Value.slice (some ⟨g,0,none⟩) ((Rf.idx (L.map FI.f) k).length+1) cap)=V at*;have qt:V.ownBlock=some g:=by rw[<-Zu];rfl
 refine⟨⟨cs,A,Y⟩,⟨⟨_,heap_setCell_same (off:=1+k) A V,by simpa using Y⟩, ?_, ?_, ?_, ?_, ?_, ?_,h.ge⟩, ?_⟩
 ·rw[U 0 (by omega),dM];exact h.c0
 ·intro m hm;unfold Kj;by_cases e:m=k
  ·subst e;rw[aa3 rfl];exact s1
  ·rw[aaD e,U _ (by omega),dM];exact h.cb m hm
 ·exact aB (aB (h.row.alloc o) E O) J I
 ·intro x hx;have D:(W.alloc o).ownsRow 0 9 1 x.av x.args.length (strCells x.args):=aeG (h.each x hx) o;exact aB (aB D E O) J I
 ·intro m hm;rw[Rf.O5,hf];unfold Kj;by_cases e:m=k
  ·subst e;rw[aa3 rfl,aa3 rfl];have D:=aB ho J I;simpa [bM]using D
  ·rw[aaD e,aaD (λy=>e y.symm)];refine aB (((h.rows m hm).alloc o).kept E ?_) J I;cases e3:(t k).ownBlock with
   | none=>
    cases y:(t m).ownBlock with
    | none=>exact .inl rfl
    | some q=>exact .inr (by simp)
   | some q=>exact .inr (h.apart k M m hm (λy=>e y.symm) q e3)
 ·have hold:∀m,m<256->m≠k->(t m).ownBlock≠some g:=by
   intro m hm N e;rcases pJ with D | D
   ·exact h.apart k M m hm (λy=>N y.symm) g D e
   ·have:=((h.rows m hm).lt g e).2;omega
  intro m hm n hn N q;unfold Kj;by_cases A:m=k
  ·grind
  ·rw[aaD A];by_cases y:n=k
   ·grind
   ·rw[aaD y];exact h.apart m hm n hn N q
 ·refine((((Kb.refl _ _).alloc o).trans' (Kb.eS E) ?_).trans' (Kb.setCell _ _ _) ?_)
  ·intro i F _;unfold eY;simp[F]
  ·intro i F _;simp only[BY,acC,aeH]at F;subst F;simp[eY]
theorem mQ.end_{W w2 t}{A:Nat->Value}{x cap o}(h:mQ W B t fd fc L A x.f)(Y:x.ok W)(E:(W.alloc o).grownBy w2 (Value.slice fd L.length fc).ownBlock)(ho:w2.ownsRow B 48 2 (.slice (some ⟨g,0,none⟩) (L.length+1) cap) (L.length+1) (ax L++[.string x.pred,x.av])):
 (∃cs,w2.heap[t]?=some (.cells cs 273 (0,0))/\cs.size=257)/\cu (w2.setCell ⟨t,0,none⟩ (.slice (some ⟨g,0,none⟩) (L.length+1) cap)) B t (some ⟨g,0,none⟩) cap (L++[x]) A/\Kb (eY t (.slice fd L.length fc) (.slice none 0 0)) W (w2.setCell ⟨t,0,none⟩ (.slice (some ⟨g,0,none⟩) (L.length+1) cap)):=by
 obtain⟨cs,F,U⟩:=h.aY;have O:=lt_of_heap F;have J:=au (h.row.alloc o);have u:w2.heap[t]?=some (.cells cs 273 (0,0)):=by
  rw[E.block _ (by simp;omega) ?_,aay _ _ _ O,F];intro e;obtain⟨w,fz,H⟩:=J t e.symm;rw[aay _ _ _ O,F]at H;simp at H
 have dM:∀j,w2.cell? ⟨t,j,none⟩=W.cell? ⟨t,j,none⟩:=λj=>by rw[aq u,aq F]
 obtain⟨X,V⟩:=sY u (i:=0) (.slice (some ⟨g,0,none⟩) (L.length+1) cap);have M:w2.grownBy (w2.setCell ⟨t,0,none⟩ (.slice (some ⟨g,0,none⟩) (L.length+1) cap)) (some t):=grownBy_setCell _ _;have I:∀q,(some t:Option Nat)=some q->∃w fz,w2.heap[q]?=some (.cells w 273 fz):=λq Z=>by cases Z;exact⟨_,_,u⟩
 have N:(L++[x]).length=L.length+1:=by simp
 refine⟨⟨cs,u,U⟩,⟨⟨_,heap_setCell_same (off:=0) u _,by simpa using U⟩, ?_, ?_, ?_, ?_, ?_,h.apart,h.ge⟩, ?_⟩
 ·rw[X,N]
 ·intro m hm;rw[V _ (by omega),dM];exact h.cb m hm
 ·rw[N];have H:ax (L++[x])=ax L++[.string x.pred,x.av]:=by simp[ax]
  rw[H];exact aB ho M I
 ·intro y hy;have h9:y.ok W:=by
   rcases ZD.1 hy with hy | hy
   ·exact h.each y hy
   ·simp at hy;subst hy;exact Y
  have h8:(W.alloc o).ownsRow 0 9 1 y.av y.args.length (strCells y.args):=aeG h9 o;exact aB (aB h8 E J) M I
 ·intro m hm;rw[aa6];exact aB (aB ((h.rows m hm).alloc o) E J) M I
 ·refine((((Kb.refl _ _).alloc o).trans' (Kb.eS E) ?_).trans' (Kb.setCell _ _ _) ?_)
  ·intro i D _;unfold eY;simp[D]
  ·intro i D _;simp only[BY,acC,aeH]at D;subst D;simp[eY]
theorem rm{q j v}(h:q≠g):(w.setCell ⟨g,i,none⟩ v).cell? ⟨q,j,none⟩=w.cell? ⟨q,j,none⟩:=by
 unfold World.cell?;rw[abO _ _ _ _ (by simpa using λe=>h e)]
structure rZ(w:World)(B sh:Nat)(fd:Option Addr)(fc:Nat)(L:List FI)(bv:Value)(x:FI)(w':World):Prop where
 at_:∃iU ji mz,cu w' B sh iU ji (L++[x]) mz/\aZ w (.slice fd L.length fc) (.slice iU (L.length+1) ji)
 kb:Kb (eY sh (.slice fd L.length fc) bv) w w'
 M5:∀q,(Value.slice fd L.length fc).ownBlock=some q->(∃cur,w'.heap[q]?=some (.cells cur 48 (0,0)))/\∀j,j<L.length*2->w'.cell? ⟨q,j,none⟩=w.cell? ⟨q,j,none⟩
theorem nR(w:World){y:Nat}(fd)(fc:Nat)(L)(H:Nat->Value)(h:cu w B y fd fc L H)(hl:L.length<=1000)(x:FI)(hx:x.ok w)(hs:FSm x.f):
 Calls prog 153 #[.pointer (some ⟨y,0,none⟩),.agg #[.string x.pred,x.av]] w λe w'=>e=.returned (.tuple #[])/\rZ w B y fd fc L (H (Rf.bk x.f)) x w':=by
 obtain⟨i0,fC,cE,ch,cz⟩:=abF Tryz.E5;have HI:Hid (prog.info? 3=some i0/\i0.zero=some (.int .i64 0)/\i0.size=1/\i0.bytes=8):=⟨fC,cE,ch,cz⟩;clear fC cE ch cz;obtain⟨i1,fC,cE,ch,cz⟩:=abF Tryz.kI;have HJ:Hid (prog.info? 48=some i1/\i1.zero=some (.agg #[.string ByteArray.empty,.slice none 0 0])/\i1.size=2/\i1.bytes=40):=⟨fC,cE,ch,cz⟩;clear fC cE ch cz;rcases x with⟨p,a,av⟩;have hxw:w.ownsRow 0 9 1 av a.length (strCells a):=hx;obtain⟨ad,ac,rfl⟩:=ah hxw;have vj:Rf.bk (p,a)<256:=Rf.KL (p,a);have Jm:FI.f ⟨p,a,.slice ad a.length ac⟩=(p,a):=rfl;rw[Jm]at hs ⊢;have VR:Hid (∀W,Below w.heap.size w W->Calls prog 212 #[.agg #[.string p,.slice ad a.length ac]] W λe w'=>e=.returned (.int .i64 (Rf.bk (p,a):Nat))/\w'=W.alloc (.cells #[.string p,.slice ad a.length ac] 48)):=λW hW=>xZ W p a (ae hxw hW) hs.p hs.n hs.a;have HS:=aj h;have Om:=aj hx;have HBN:Hid (Rf.bk (p,a)=Rf.bk (p,a)):=rfl;have hil:(Rf.idx (L.map FI.f) (Rf.bk (p,a))).length<=1000:=aaK (Rf.Kx _ _) (by simpa using hl);generalize uP:Rf.bk (p,a)=A at*;clear h hx hxw hs Jm HBN
 go_enter func153,ntmps153
 go_upto_region 2 with(go_at_call 212;refine(VR.out _ (by exact aM)).mono ?_;rintro e w9 ⟨rfl,rfl⟩)
 have HLW:Hid (y<w.heap.size/\(∀q,(H A).ownBlock=some q->q<w.heap.size/\∃u fz,w.heap[q]?=some (.cells u 3 fz))/\(∃u,w.heap[y]?=some (.cells u 273 (0,0)))/\∀q,(Value.slice fd L.length fc).ownBlock=some q->q<w.heap.size/\∃u fz,w.heap[q]?=some (.cells u 48 fz)):=by
  obtain⟨cs,J,_⟩:=HS.out.aY;exact⟨lt_of_heap J,λq N=>⟨((HS.out.rows A vj).lt q N).2,au (HS.out.rows A vj) q N⟩,⟨cs,J⟩,λq N=>⟨(HS.out.row.lt q N).2,au HS.out.row q N⟩⟩
 obtain⟨E,xO⟩:∃E,E=(w.alloc (.cells #[.string p,.slice ad a.length ac] 48)).alloc (.cells #[.string p,.slice ad a.length ac] 48):=⟨_,rfl⟩;rw[<-xO];have dp:Below w.heap.size w E:=by rw[xO];exact aM.alloc (by simp) _
 have pK:E.heap[w.heap.size]?=some (.cells #[.string p,.slice ad a.length ac] 48 (0,0)):=by
  rw[xO,aay _ _ _ (by simp)];exact By w _
 have h3:=HS.out.below dp;have HS3:=aj h3;have ZG:=aj pK;have qI:=aj dp;obtain⟨cs,hblk,bA⟩:=h3.aY;have Dm:=lt_of_heap hblk;have x0:=h3.c0;have x1:=h3.cb A vj;have bC:=h3.rows A vj;have HBe:Hid (B<=E.heap.size):=Nat.le_of_lt (Nat.lt_of_le_of_lt h3.ge Dm);have hBe:=HBe.out;generalize hbv:H A=bv at*;have HBV:=aj hbv;obtain⟨D,X,aiB⟩:=ah bC;have et:Hid (∀w2 g cap,(E.drew.alloc (.cells #[.int .i64 (L.length:Nat)] 3)).grownBy w2 bv.ownBlock->w2.ownsRow B 3 1 (.slice (some ⟨g,0,none⟩) ((Rf.idx (L.map FI.f) A).length+1) cap) ((Rf.idx (L.map FI.f) A).length+1) (bM (Rf.idx (L.map FI.f) A)++[.int .i64 (L.length:Nat)])->(bv.ownBlock=some g\/g=E.heap.size+1)->(∃v,w2.cell? ⟨y,1+A,none⟩=some v)/\w2.frozen? ⟨y,1+A,none⟩=false/\y<w2.heap.size/\Hid (∃mz,mQ (w2.setCell ⟨y,1+A,none⟩ (.slice (some ⟨g,0,none⟩) ((Rf.idx (L.map FI.f) A).length+1) cap)) B y fd fc L mz (p,a)/\Kb (eY y (.slice none 0 0) bv) E (w2.setCell ⟨y,1+A,none⟩ (.slice (some ⟨g,0,none⟩) ((Rf.idx (L.map FI.f) A).length+1) cap)))):=by
  intro w2 g cap q1 q2 V;have h9:cu E.drew B y fd fc L H:=HS3.out.below (aaj _ _).drew;have e9:=HBV.out;obtain⟨⟨cs2,M,k2⟩,k3,F⟩:=h9.mid (f:=(p,a)) (o:=.cells #[.int .i64 (L.length:Nat)] 3) vj uP (by rw[e9];exact q1) q2 (by rw[e9];exact V);rw[e9]at F;exact⟨⟨cs2[1+A]'(by omega),by rw[aq M];simp⟩,aJ M _,lt_of_heap M,_,k3,⟨F.os,F.tape,F.output,F.size,F.block⟩⟩
 have Hl:=aj bC;generalize Rf.idx (L.map FI.f) A=I at*;subst aiB;have j1:(0:Int)<=(A:Int):=by omega
 have j2:(A:Int)<256:=by omega
 clear xO dp pK h3 hblk bA bC VR hbv HS
 go_cut [4]from 7 (λv wx=>v=.int .i64 (A:Nat)/\Hid (∃mz,mQ wx B y fd fc L mz (p,a)/\Kb (eY y (.slice none 0 0) (.slice D I.length X)) E wx))
 ·
  go_region_law (refine aed _ rfl (.tmp 14) (.tmp 20) 31 rfl B 3 i0 _ 1 8 Tryz.underlying31 HI.out.1 HI.out.2.1 HI.out.2.2.1 HI.out.2.2.2 rfl (by decide) (.slice D I.length X) I.length (bM I) (by simp[Act.eval,Act.put]) (by exact Hl.out.alloc _) ⟨E.heap.size,0,none⟩ 1 1 [.int .i64 (L.length:Nat)] (by simp[Act.eval,Act.put]) rfl (by exact abC (By _ _)) (by simp[Value.oneCell']) (by decide) eI (by omega) (by simp;omega) (E.heap.size+1) (by simp) ?_;intro g2 sQ w2 J U e3 _;obtain⟨⟨v2,Zf⟩,ad0,qB,NF⟩:=et.out w2 g2 sQ U J e3)
  all_goals (first | (go_meet;exact⟨rfl,NF⟩) | (go_wp2_with fail;go_meet;exact⟨rfl,NF⟩))
 ·
  obtain⟨rfl,HM⟩:=hcut;clear x0 x1 et Hl HS3;obtain⟨mz,hM,hK⟩:=HM.out;have zT:∀b,b∈eY y (.slice none 0 0) (.slice D I.length X)->b<w.heap.size/\∃u t fz,w.heap[b]?=some (.cells u t fz)/\(t=273\/t=3):=by
   intro b hb;obtain⟨M,k2,⟨u,k3⟩,_⟩:=HLW.out;unfold eY at hb;rcases BY.1 hb with rfl | hb
   ·exact⟨M,u,_,_,k3,.inl rfl⟩
   ·have iW:b∈(Value.slice D I.length X).ownBlock.toList:=by simpa [Value.ownBlock]using hb
    rw[abh]at iW;obtain⟨q1,u,fz,q2⟩:=k2 b iW;exact⟨q1,u,_,fz,q2,.inr rfl⟩
  have G7:=aj zT;have Ox:¬w.heap.size∈eY y (.slice none 0 0) (.slice D I.length X):=λhm=>by have:=(zT _ hm).1;omega
  have yA:wc.heap[w.heap.size]?=some (.cells #[.string p,.slice ad a.length ac] 48 (0,0)):=hK.heap ZG.out Ox;obtain⟨y0,y1,_,_,yl⟩:=bG yA;obtain⟨cs,hblk,bA⟩:=hM.aY;have amA:=lt_of_heap hblk;have x0:=hM.c0;have Y:=aj hM;have HKK:=aj hK;have HXC:Hid (FI.ok wc ⟨p,a,.slice ad a.length ac⟩):=by
   have h9:E.ownsRow 0 9 1 (.slice ad a.length ac) a.length (strCells a):=ae Om.out qI.out;refine hK.row h9 ?_;intro b hb hm;obtain⟨q1,u,t,fz,q2,V⟩:=zT b hm;obtain⟨CR,fz2,Z⟩:=au Om.out b hb;rw[q2]at Z;simp only[AT,aa1]at Z;rcases V with V | V<;>rw[V]at Z<;>exact absurd Z.2.1 (by decide)
  have UU:=hM.row;have HRL:=aj UU;have et:Hid (∀w2 g cap,(wc.drew.alloc (.cells #[.string p,.slice ad a.length ac] 48)).grownBy w2 (Value.slice fd L.length fc).ownBlock->w2.ownsRow B 48 2 (.slice (some ⟨g,0,none⟩) (L.length+1) cap) (L.length+1) (ax L++[.string p,.slice ad a.length ac])->aZ (wc.drew.alloc (.cells #[.string p,.slice ad a.length ac] 48)) (.slice fd L.length fc) (.slice (some ⟨g,0,none⟩) (L.length+1) cap)->(∀q:Nat,(Value.slice fd L.length fc).ownBlock=some q->(∃u,w2.heap[q]?=some (.cells u 48 (0,0)))/\∀j,j<L.length*2->w2.cell? ⟨q,j,none⟩=(wc.drew.alloc (.cells #[.string p,.slice ad a.length ac] 48)).cell? ⟨q,j,none⟩)->(∃v,w2.cell? ⟨y,0,none⟩=some v)/\w2.frozen? ⟨y,0,none⟩=false/\y<w2.heap.size/\Hid (rZ w B y fd fc L (.slice D I.length X) ⟨p,a,.slice ad a.length ac⟩ (w2.setCell ⟨y,0,none⟩ (.slice (some ⟨g,0,none⟩) (L.length+1) cap)))):=by
   intro w2 g cap q1 q2 V Z;have hd9:Below wc.heap.size wc wc.drew:=(aaj _ _).drew;have hM9:mQ wc.drew B y fd fc L mz (FI.f ⟨p,a,.slice ad a.length ac⟩):=⟨Y.out.aY,Y.out.c0,Y.out.cb,Y.out.row,Y.out.each,Y.out.rows,Y.out.apart,Y.out.ge⟩;obtain⟨⟨cs2,M,k2⟩,k3,F⟩:=hM9.end_ (HXC.out) q1 q2;refine⟨⟨cs2[0]'(by omega),by rw[aq M];simp⟩,aJ M _,lt_of_heap M,⟨⟨_,_,_,k3,V.mono ?_⟩, ?_, ?_⟩⟩
   ·have:=HKK.out.size;have:=qI.out.size;simp;omega
   ·have kA:Kb (eY y (.slice fd L.length fc) (.slice D I.length X)) w E:=Kb.bD qI.out _;have kB:=kA.trans' HKK.out (λi O _=>by
     unfold eY at O ⊢;rcases BY.1 O with rfl | O
     ·simp
     ·refine adr _ (List.mem_append_right _ ?_);simpa [Value.ownBlock]using O)
    have k4':Kb (eY y (.slice fd L.length fc) (.slice none 0 0)) wc (w2.setCell ⟨y,0,none⟩ (.slice (some ⟨g,0,none⟩) (L.length+1) cap)):=⟨F.os,F.tape,F.output,F.size,F.block⟩;refine kB.trans' k4' (λi O _=>?_);unfold eY at O ⊢;rcases BY.1 O with rfl | O
    ·simp
    ·refine adr _ (acH _ ?_);simpa [Value.ownBlock]using O
   ·intro q N;obtain⟨_,_,⟨apg,c0⟩,k5⟩:=HLW.out;obtain⟨q5,u,fz,q6⟩:=k5 q N;have cB:q≠y:=by
     intro e;subst e;rw[c0]at q6;simp at q6
    have NX:¬q∈eY y (.slice none 0 0) (.slice D I.length X):=by
     intro hm;obtain⟨_,u,t,fz,J,U⟩:=G7.out q hm;rw[q6]at J;simp only[AT,aa1]at J;rcases U with U | U<;>rw[<-J.2.1]at U<;>exact absurd U (by decide)
    have YR:E.heap[q]?=some (.cells u 48 fz):=by rw[qI.out.block _ q5];exact q6
    have hqc:=HKK.out.heap YR NX;refine⟨?_,λj hj=>?_⟩
    ·obtain⟨ah5,e9⟩:=(Z q N).1;exact⟨ah5,by rw[abO _ _ _ _ (by simpa using λe=>cB e)];exact e9⟩
    rw[rm (λe=>cB e),(Z q N).2 j hj];have U8:q<wc.heap.size:=lt_of_heap hqc;have e9:(wc.drew.alloc (.cells #[.string p,.slice ad a.length ac] 48)).heap[q]?=wc.heap[q]?:=aay _ _ _ U8;unfold World.cell?;rw[e9,hqc,q6]
  have hBc:B<=wc.heap.size:=aaK HBe.out hK.size;clear hM hK hblk bA yA UU HM Ox
  go_upto_region 3 with fail
  go_region_law (refine iV _ rfl (.tmp 29) (.tmp 31) 37 rfl B 48 i1 _ 2 40 abX HJ.out.1 HJ.out.2.1 HJ.out.2.2.1 HJ.out.2.2.2 rfl (by decide) (.slice fd L.length fc) L.length (ax L) (by simp[Act.eval,Act.put]) (by exact HRL.out.alloc _) ⟨wc.heap.size,0,none⟩ 1 1 [.string p,.slice ad a.length ac] (by simp[Act.eval,Act.put]) rfl (by exact abC (By _ _)) (by simp[Value.oneCell']) (by decide) eI (by omega) (by simp;omega) ?_;intro g2 sQ w2 J U e3 e4;obtain⟨⟨v2,Zf⟩,ad0,qB,NF⟩:=et.out w2 g2 sQ U J e3 e4)
  all_goals (first | (go_end0;exact⟨rfl,by rw[HBV.out];exact NF.out⟩) | (go_wp2_with fail;go_end0;exact⟨rfl,by rw[HBV.out];exact NF.out⟩))
