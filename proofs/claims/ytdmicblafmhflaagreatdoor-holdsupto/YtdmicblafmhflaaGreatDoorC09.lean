/- axiomref: word. -/
import Derived.Test.YtdmicblafmhflaaGreatDoorC08
set_option linter.unusedSimpArgs false
set_option linter.unusedVariables false
set_option maxHeartbeats 8000000
set_option maxRecDepth 100000
namespace Go.Proofs.YtdmicblafmhflaaGreatDoor
open Go.Proofs.Tryz Go.RowKit
variable{p:Ax.Tok}{j k:Int}{lV:List Bool}{lT:List ByteArray}{i n q t:Nat}{w e w' wr:World}
theorem pV{R a}(h:R=(i,n))(e:a<=i:=by omega):Ending.returned (.tuple #[.int .i64 ((i:Int)-a),.int .i64 n])=.returned (.tuple #[.int .i64 ((R.1:Int)-a),.int .i64 R.2]):=by rw[h]
theorem Db{s c sz}(h:Ax.pt s i=(c,sz)):Ax.yW s i n=(decide (0<sz)&&(Ax.jU c||(decide (n=0)&&decide (65<=c)&&decide (c<=90))||(decide (0<n)&&decide (48<=c)&&decide (c<=57)))):=by simp[Ax.yW,h]
theorem eh(s)(a:Nat)(w)(hs:s.size<=1152921504606846976:=by omega)(ha:a<=s.size:=by omega):
 Calls prog 257 #[.string s,.int .i64 a] w λe w'=>e=.returned (.tuple #[.int .i64 (((Ax.cH s s.size a 0).1:Int)-a),.int .i64 (Ax.cH s s.size a 0).2])/\w'=w:=by
 generalize hR:Ax.cH s s.size a 0=R
 go_enter func257,ntmps257
 go_wp2_with fail
 go_loopg [6,7] s.size (λf iv nv wr=>∃i n:Nat,a<=i/\i<=s.size/\n<=i/\s.size<=i+f/\iv=.int .i64 i/\nv=.int .i64 n/\Ax.cH s f i n=R/\w=wr)
 ·exact⟨a,0,OF _,ha,IS _,by omega,rfl,rfl,hR,rfl⟩
 ·
  obtain⟨i,n,hai,his,hni,hf,rfl,rfl,Z,Qa⟩:=hrel;subst Qa;have N:=aj Z;clear Z hR;by_cases u:i<s.size
  ·have D:=Ax.Pq s i u;obtain⟨f,He⟩:∃f,gk=f+1:=⟨gk-1,by omega⟩;subst He;rcases B:Ax.pt s i with⟨c,sz⟩;rw[B]at D;simp only at D;have y:=aj B;have t:Ax.yW s i n=true->Ax.cH s f (i+sz) (n+1)=R:=by
    intro U;have:=Ax.te (f:=f) u U;rw[B]at this;exact this.symm.trans N.out
   have q:Ax.yW s i n=false->R=(i,n):=λU=>N.out.symm.trans (Ax.rJ U);rw[Db B]at t q;clear B N;by_cases M:0<sz
   ·have hz':0<sz:=M;cases A:Ax.jU c
    case true=>
     have J:Hid (Ax.cH s f (i+sz) (n+1)=R):=t (by simp[*]);clear t q
     go_wp2_with (first | (go_at_call 277;refine(iq s i hs u).mono ?_;rintro e w' ⟨rfl,rfl⟩;rw[y.out]) | (go_at_call 278;refine(fX).mono ?_;rintro e w' ⟨rfl,rfl⟩))
     go_roundg f
     case measure=>omega
     case rel=>exact⟨i+sz,n+1,by omega,by omega,by omega,by omega,by go_num,by go_num,J.out,rfl⟩
    case false=>
     by_cases j:n=0
     ·have qt:((n:Int)==0)=true:=by simp[j]
      have hnz:¬0<n:=by omega
      by_cases F:65<=c
      ·have W:decide ((65:Int)<=(c:Int))=true:=by simp;omega
       by_cases E:c<=90
       ·have V:decide ((c:Int)<=90)=true:=by simp;omega
        have J:Hid (Ax.cH s f (i+sz) (n+1)=R):=t (by simp[M,A,j,F,E]);clear t q j
        go_wp2_with (first | (go_at_call 277;refine(iq s i hs u).mono ?_;rintro e w' ⟨rfl,rfl⟩;rw[y.out]) | (go_at_call 278;refine(fX).mono ?_;rintro e w' ⟨rfl,rfl⟩))
        go_roundg f
        case measure=>omega
        case rel=>exact⟨i+sz,n+1,by omega,by omega,by omega,by omega,by go_num,by go_num,J.out,rfl⟩
       ·have V:decide ((c:Int)<=90)=false:=by simp;omega
        have x:Hid (R=(i,n)):=q (by simp[A,j,E]);clear t q j
        go_wp2_with (first | (go_at_call 277;refine(iq s i hs u).mono ?_;rintro e w' ⟨rfl,rfl⟩;rw[y.out]) | (go_at_call 278;refine(fX).mono ?_;rintro e w' ⟨rfl,rfl⟩))
        go_ret2
        exact⟨pV x.out,rfl⟩
      ·have W:decide ((65:Int)<=(c:Int))=false:=by simp;omega
       have x:Hid (R=(i,n)):=q (by simp[A,j,F]);clear t q j
       go_wp2_with (first | (go_at_call 277;refine(iq s i hs u).mono ?_;rintro e w' ⟨rfl,rfl⟩;rw[y.out]) | (go_at_call 278;refine(fX).mono ?_;rintro e w' ⟨rfl,rfl⟩))
       go_ret2
       exact⟨pV x.out,rfl⟩
     ·have qt:((n:Int)==0)=false:=by simp[j]
      have O:0<n:=by omega
      by_cases I:48<=c
      ·have Y:decide ((48:Int)<=(c:Int))=true:=by simp;omega
       by_cases H:c<=57
       ·have X:decide ((c:Int)<=57)=true:=by simp;omega
        have J:Hid (Ax.cH s f (i+sz) (n+1)=R):=t (by simp[M,A,j,O,I,H]);clear t q j
        go_wp2_with (first | (go_at_call 277;refine(iq s i hs u).mono ?_;rintro e w' ⟨rfl,rfl⟩;rw[y.out]) | (go_at_call 278;refine(fX).mono ?_;rintro e w' ⟨rfl,rfl⟩))
        go_roundg f
        case measure=>omega
        case rel=>exact⟨i+sz,n+1,by omega,by omega,by omega,by omega,by go_num,by go_num,J.out,rfl⟩
       ·have X:decide ((c:Int)<=57)=false:=by simp;omega
        have x:Hid (R=(i,n)):=q (by simp[A,j,H]);clear t q j
        go_wp2_with (first | (go_at_call 277;refine(iq s i hs u).mono ?_;rintro e w' ⟨rfl,rfl⟩;rw[y.out]) | (go_at_call 278;refine(fX).mono ?_;rintro e w' ⟨rfl,rfl⟩))
        go_ret2
        exact⟨pV x.out,rfl⟩
      ·have Y:decide ((48:Int)<=(c:Int))=false:=by simp;omega
       have x:Hid (R=(i,n)):=q (by simp[A,j,I]);clear t q j
       go_wp2_with (first | (go_at_call 277;refine(iq s i hs u).mono ?_;rintro e w' ⟨rfl,rfl⟩;rw[y.out]) | (go_at_call 278;refine(fX).mono ?_;rintro e w' ⟨rfl,rfl⟩))
       go_ret2
       exact⟨pV x.out,rfl⟩
   ·have x:Hid (R=(i,n)):=q (by simp[M]);clear t q
    go_wp2_with (first | (go_at_call 277;refine(iq s i hs u).mono ?_;rintro e w' ⟨rfl,rfl⟩;rw[y.out]) | (go_at_call 278;refine(fX).mono ?_;rintro e w' ⟨rfl,rfl⟩))
    go_ret2
    exact⟨pV x.out,rfl⟩
  ·have x:Hid (R=(i,n)):=N.out.symm.trans (Ax.pY u)
   go_wp2_with fail
   go_ret2
   exact⟨pV x.out,rfl⟩
/- axiomref: token. -/
def wD(t:Ax.kO):Value:=.agg #[.int .u8 t.kind,.string t.text,.int .i64 t.at_]
theorem tZ(s)(O:Nat)(hs:s.size<=600)(RM:O<=s.size):
 Calls prog 209 #[.string s,.int .i64 O] w λe w'=>e=.returned (wD (Ax.fZ s O))/\Below w.heap.size w w':=by
 unfold Ax.fZ;generalize I:Ax.gO s s.size O=A;generalize D:Ax.eJ s A=V
 go_enter func209,ntmps209
 go_wp2_with fail
 go_loopg [1] s.size (λf av wr=>∃a:Nat,a<=s.size/\s.size<=a+f/\av=.int .i64 a/\Ax.gO s f a=A/\w.alloc (.cells #[.int .u8 0,.string ⟨#[]⟩,.int .i64 0] 263)=wr)
 ·exact⟨O,RM,by omega,rfl,I,rfl⟩
 ·
  obtain⟨a,ha,hf,rfl,hr,Qa⟩:=hrel;subst Qa;have F:=aj hr;clear hr I;by_cases aL:a<s.size
  ·have hb:=Ax.ej s a aL;have eB:=Ax.fQ s a;by_cases W:Ax.byte s a=32\/Ax.byte s a=10
   ·obtain⟨f,He⟩:∃f,gk=f+1:=⟨gk-1,by omega⟩;subst He;have HN:Hid (Ax.gO s f (a+1)=A):=(Ax.G0 aL (by simp[Ax.Dp,W])).symm.trans F.out;clear F;rcases W with uo | XU
    ·have Er:((Ax.byte s a:Int)==32)=true:=by simp[uo]
     clear uo
     go_wp2_with fail
     go_roundg f
     case measure=>omega
     case rel=>exact⟨a+1,by omega,by omega,by go_num,HN.out,rfl⟩
    ·have Er:((Ax.byte s a:Int)==32)=false:=by simp[XU]
     have vE:((Ax.byte s a:Int)==10)=true:=by simp[XU]
     clear XU
     go_wp2_with fail
     go_roundg f
     case measure=>omega
     case rel=>exact⟨a+1,by omega,by omega,by go_num,HN.out,rfl⟩
   ·obtain rfl:a=A:=(Ax.gf (by simp[Ax.Dp];omega)).symm.trans F.out;have Er:((Ax.byte s a:Int)==32)=false:=by simp;omega
    have vE:((Ax.byte s a:Int)==10)=false:=by simp;omega
    have cB:((a:Int)==(s.size:Int))=false:=by simp;omega
    have q:¬a=s.size:=by omega
    have H:=Ax.yC s s.size a 0;have nP:=Ax.oX s s.size a 0 ha;unfold Ax.eJ at D;rcases X:Ax.cH s s.size a 0 with⟨E,U⟩;rw[X]at D H nP;have t:=aj X;have j:=aj D;clear D X F W;simp only at H nP;generalize hc:Ax.byte s a=c at*;clear hc;by_cases N:6<U
    ·have hx6:6<U:=N;have i:Hid (V=⟨120,⟨#[]⟩,a⟩):=by rw[<-j.out];simp[Hid,q,N]
     clear j
     go_wp2_with (first | (go_at_call 257;refine(eh s a _).mono ?_;rintro e w' ⟨rfl,rfl⟩;rw[t.out]))
     exact aaT (v:=.agg #[.int .u8 120,.string ⟨#[]⟩,.int .i64 a]) (by simp[results,adm,go_sem]) rfl ⟨by rw[i.out];rfl,aM⟩
    by_cases Y:0<U
    ·by_cases M:65<=c
     ·have d65:decide ((65:Int)<=(c:Int))=true:=by simp;omega
      by_cases J:c<=90
      ·have d90:decide ((c:Int)<=90)=true:=by simp;omega
       have i:Hid (V=⟨118,(s.extract a E),a⟩):=by rw[<-j.out];simp[Hid,q,N,Y,M,J]
       clear j
       go_wp2_with (first | (go_at_call 257;refine(eh s a _).mono ?_;rintro e w' ⟨rfl,rfl⟩;rw[t.out]))
       exact aaT (v:=.agg #[.int .u8 118,.string (s.extract a E),.int .i64 a]) (by simp[results,adm,go_sem]) rfl ⟨by rw[i.out];rfl,aM⟩
      ·have d90:decide ((c:Int)<=90)=false:=by simp;omega
       have i:Hid (V=⟨110,(s.extract a E),a⟩):=by rw[<-j.out];simp[Hid,q,N,Y,J]
       clear j
       go_wp2_with (first | (go_at_call 257;refine(eh s a _).mono ?_;rintro e w' ⟨rfl,rfl⟩;rw[t.out]))
       exact aaT (v:=.agg #[.int .u8 110,.string (s.extract a E),.int .i64 a]) (by simp[results,adm,go_sem]) rfl ⟨by rw[i.out];rfl,aM⟩
     ·have d65:decide ((65:Int)<=(c:Int))=false:=by simp;omega
      have i:Hid (V=⟨110,(s.extract a E),a⟩):=by rw[<-j.out];simp[Hid,q,N,Y,M]
      clear j
      go_wp2_with (first | (go_at_call 257;refine(eh s a _).mono ?_;rintro e w' ⟨rfl,rfl⟩;rw[t.out]))
      exact aaT (v:=.agg #[.int .u8 110,.string (s.extract a E),.int .i64 a]) (by simp[results,adm,go_sem]) rfl ⟨by rw[i.out];rfl,aM⟩
    have y:U=0:=by omega
    by_cases AY:c=40
    ·have b40:((c:Int)==40)=true:=by simp[AY]
     have i:Hid (V=⟨40,(s.extract a (a+1)),a⟩):=by rw[<-j.out];simp[Hid,q,y,AY]
     clear j
     go_wp2_with (first | (go_at_call 257;refine(eh s a _).mono ?_;rintro e w' ⟨rfl,rfl⟩;rw[t.out]))
     exact aaT (v:=.agg #[.int .u8 40,.string (s.extract a (a+1)),.int .i64 a]) (by simp[results,adm,go_sem]) rfl ⟨by rw[i.out];rfl,aM⟩
    have b40:((c:Int)==40)=false:=by simp;omega
    by_cases U1:c=41
    ·have b41:((c:Int)==41)=true:=by simp[U1]
     have i:Hid (V=⟨41,(s.extract a (a+1)),a⟩):=by rw[<-j.out];simp[Hid,q,y,U1]
     clear j
     go_wp2_with (first | (go_at_call 257;refine(eh s a _).mono ?_;rintro e w' ⟨rfl,rfl⟩;rw[t.out]))
     exact aaT (v:=.agg #[.int .u8 41,.string (s.extract a (a+1)),.int .i64 a]) (by simp[results,adm,go_sem]) rfl ⟨by rw[i.out];rfl,aM⟩
    have b41:((c:Int)==41)=false:=by simp;omega
    by_cases Wj:c=44
    ·have b44:((c:Int)==44)=true:=by simp[Wj]
     have i:Hid (V=⟨44,(s.extract a (a+1)),a⟩):=by rw[<-j.out];simp[Hid,q,y,Wj]
     clear j
     go_wp2_with (first | (go_at_call 257;refine(eh s a _).mono ?_;rintro e w' ⟨rfl,rfl⟩;rw[t.out]))
     exact aaT (v:=.agg #[.int .u8 44,.string (s.extract a (a+1)),.int .i64 a]) (by simp[results,adm,go_sem]) rfl ⟨by rw[i.out];rfl,aM⟩
    have b44:((c:Int)==44)=false:=by simp;omega
    by_cases Zm:c=46
    ·have b46:((c:Int)==46)=true:=by simp[Zm]
     have i:Hid (V=⟨46,(s.extract a (a+1)),a⟩):=by rw[<-j.out];simp[Hid,q,y,Zm]
     clear j
     go_wp2_with (first | (go_at_call 257;refine(eh s a _).mono ?_;rintro e w' ⟨rfl,rfl⟩;rw[t.out]))
     exact aaT (v:=.agg #[.int .u8 46,.string (s.extract a (a+1)),.int .i64 a]) (by simp[results,adm,go_sem]) rfl ⟨by rw[i.out];rfl,aM⟩
    have b46:((c:Int)==46)=false:=by simp;omega
    by_cases u:c=58
    ·have b58:((c:Int)==58)=true:=by simp[u]
     by_cases Z:a+1<s.size
     ·have aV:=Ax.ej s (a+1) Z;by_cases x:Ax.byte s (a+1)=45
      ·have b45:((Ax.byte s (a+1):Int)==45)=true:=by simp[x]
       have i:Hid (V=⟨58,⟨#[58,45]⟩,a⟩):=by rw[<-j.out];simp[Hid,q,y,u,Z,x]
       clear j x
       go_wp2_with (first | (go_at_call 257;refine(eh s a _).mono ?_;rintro e w' ⟨rfl,rfl⟩;rw[t.out]))
       exact aaT (v:=.agg #[.int .u8 58,.string ⟨#[58,45]⟩,.int .i64 a]) (by simp[results,adm,go_sem]) rfl ⟨by rw[i.out];rfl,aM⟩
      ·have b45:((Ax.byte s (a+1):Int)==45)=false:=by simp;omega
       have i:Hid (V=⟨120,⟨#[]⟩,a⟩):=by rw[<-j.out];simp[Hid,q,y,u,x]
       clear j x
       go_wp2_with (first | (go_at_call 257;refine(eh s a _).mono ?_;rintro e w' ⟨rfl,rfl⟩;rw[t.out]))
       exact aaT (v:=.agg #[.int .u8 120,.string ⟨#[]⟩,.int .i64 a]) (by simp[results,adm,go_sem]) rfl ⟨by rw[i.out];rfl,aM⟩
     ·have i:Hid (V=⟨120,⟨#[]⟩,a⟩):=by rw[<-j.out];simp[Hid,q,y,u,Z]
      clear j
      go_wp2_with (first | (go_at_call 257;refine(eh s a _).mono ?_;rintro e w' ⟨rfl,rfl⟩;rw[t.out]))
      exact aaT (v:=.agg #[.int .u8 120,.string ⟨#[]⟩,.int .i64 a]) (by simp[results,adm,go_sem]) rfl ⟨by rw[i.out];rfl,aM⟩
    have b58:((c:Int)==58)=false:=by simp;omega
    have i:Hid (V=⟨120,⟨#[]⟩,a⟩):=by rw[<-j.out];simp[Hid,q,y,AY,U1,Wj,Zm,u]
    clear j
    go_wp2_with (first | (go_at_call 257;refine(eh s a _).mono ?_;rintro e w' ⟨rfl,rfl⟩;rw[t.out]))
    exact aaT (v:=.agg #[.int .u8 120,.string ⟨#[]⟩,.int .i64 a]) (by simp[results,adm,go_sem]) rfl ⟨by rw[i.out];rfl,aM⟩
  ·have B:a=s.size:=by omega
   have I:a=A:=(Ax.gf (by omega)).symm.trans F.out;have i:Hid (V=⟨101,⟨#[]⟩,a⟩):=by rw[<-D,<-I];simp[Hid,Ax.eJ,B]
   have cB:((a:Int)==(s.size:Int))=true:=by simp[B]
   clear D I F B
   go_wp2_with fail
   exact aaT (v:=.agg #[.int .u8 101,.string ⟨#[]⟩,.int .i64 a]) (by simp[results,adm,go_sem]) rfl ⟨by rw[i.out];rfl,aM⟩
/- axiomref: tokens. -/
def dD(l:List Ax.kO):List Value:=l.flatMap λt=>[.int .u8 t.kind,.string t.text,.int .i64 t.at_]
theorem kZ(l t):dD (l++[t])=dD l++[.int .u8 t.kind,.string t.text,.int .i64 t.at_]:=by simp[dD]
theorem Tryz.zC:(prog.info? 263).map (λi=>(i.zero,i.size,i.bytes))=some (some (.agg #[.int .u8 0,.string ByteArray.empty,.int .i64 0]),3,32):=by kernel_rfl
theorem oL{w0 w1 w2 v xs i j e size}(x:w0.ownsRow w.heap.size e size v n xs)(u:Below w.heap.size w w0)(t:Below w0.heap.size w0 w1)
 (q:((w1.alloc i).alloc j).grownBy w2 v.ownBlock):Below w.heap.size w w2/\w2.heap[w1.heap.size]?=some i:=by
 have A:=u.size;have B:=t.size;refine⟨(((u.trans (t.mono A)).alloc (by omega) i).alloc (by simp;omega) j).grown q (by simp;omega) (λk y=>(x.lt k y).1), ?_⟩;rw[q.block _ (by simp;omega) ?_,aay _ _ _ (by simp)]
 ·exact By _ _
 ·intro e;have:=(x.lt _ e.symm).2;omega
theorem Ic(s w)(hs:s.size<=600):
 Calls prog 150 #[.string s] w λe w'=>∃v,e=.returned v/\w'.ownsRow w.heap.size 263 3 v (Ax.Cv s).length (dD (Ax.Cv s))/\Below w.heap.size w w':=by
 unfold Ax.Cv;generalize hR:Ax.ft s (s.size+1) 0 []=R
 go_enter func150,ntmps150
 go_wp2_with fail
 go_loopg [3,4] (s.size+1) (λf v av wr=>∃(a:Nat) (i:List Ax.kO),a<=s.size/\s.size+1<=a+f/\i.length<=a/\av=.int .i64 a/\wr.ownsRow w.heap.size 263 3 v i.length (dD i)/\Below w.heap.size w wr/\Ax.ft s f a i=R)
 ·exact⟨0,[],IS _,by omega,OF _,rfl,aaM _ _ _ _,aaj _ _,hR⟩
 ·
  obtain⟨a,i,U,hf,C5,rfl,E,V,hr⟩:=hrel;have W:=aj hr;clear hr hR;obtain⟨f,He⟩:∃f,gk=f+1:=⟨gk-1,by omega⟩;subst He;obtain⟨p1,p2,X,p4,p5⟩:=Ax.xJ s a U;have cp:=V.size;generalize Z:Ax.fZ s a=t at*;have HT:=aj Z;clear Z;by_cases q:t.kind=101\/t.kind=120
  ·have HE:Hid (R=i++[t]):=W.out.symm.trans (Ax.pG HT.out q);clear X W;rcases q with q | q
   ·have j:((t.kind:Int)==101)=true:=by simp[q]
    clear q
    go_wp2_with (first | (go_at_call 209;refine(tZ s a hs U).mono ?_;rintro e w1 ⟨rfl,j⟩;rw[HT.out];unfold wD;have B:=ae E j;have Y:=j.size) | (at_builtin;obtain⟨J,u,A,y,x⟩:=abF Tryz.zC;refine abp _ rfl (.tmp 9) (.tmp 11) 260 rfl w.heap.size 263 J _ 3 32 Tryz.underlying260 u A y x rfl (by decide) _ _ _ rfl ((B.alloc _).alloc _) ⟨w1.heap.size+1,0,none⟩ 1 1 [.int .u8 t.kind,.string t.text,.int .i64 t.at_] rfl rfl (en) (by simp[Value.oneCell']) eI (by omega) (by simp;omega) ?_;intro O w2 N D _;obtain⟨M,hblk⟩:=oL E V j D;have I:=aq hblk 0;have H:=aq hblk 1;have F:=aq hblk 2;simp only[aaV,abw,abY]at I H F;clear D B u A y x))
    go_ret;refine⟨O,rfl, ?_,M⟩;rw[HE.out,kZ];simpa using N
   ·have j:((t.kind:Int)==101)=false:=by simp[q]
    have cX:((t.kind:Int)==120)=true:=by simp[q]
    clear q
    go_wp2_with (first | (go_at_call 209;refine(tZ s a hs U).mono ?_;rintro e w1 ⟨rfl,j⟩;rw[HT.out];unfold wD;have B:=ae E j;have Y:=j.size) | (at_builtin;obtain⟨J,u,A,y,x⟩:=abF Tryz.zC;refine abp _ rfl (.tmp 9) (.tmp 11) 260 rfl w.heap.size 263 J _ 3 32 Tryz.underlying260 u A y x rfl (by decide) _ _ _ rfl ((B.alloc _).alloc _) ⟨w1.heap.size+1,0,none⟩ 1 1 [.int .u8 t.kind,.string t.text,.int .i64 t.at_] rfl rfl (en) (by simp[Value.oneCell']) eI (by omega) (by simp;omega) ?_;intro O w2 N D _;obtain⟨M,hblk⟩:=oL E V j D;have I:=aq hblk 0;have H:=aq hblk 1;have F:=aq hblk 2;simp only[aaV,abw,abY]at I H F;clear D B u A y x))
    go_ret;refine⟨O,rfl, ?_,M⟩;rw[HE.out,kZ];simpa using N
  ·have HN:Hid (Ax.ft s f (t.at_+t.text.size) (i++[t])=R):=(Ax.xy HT.out q).symm.trans W.out;have hq:=X q;have j:((t.kind:Int)==101)=false:=by simp;omega
   have cX:((t.kind:Int)==120)=false:=by simp;omega
   clear q X W
   go_wp2_with (first | (go_at_call 209;refine(tZ s a hs U).mono ?_;rintro e w1 ⟨rfl,j⟩;rw[HT.out];unfold wD;have B:=ae E j;have Y:=j.size) | (at_builtin;obtain⟨J,u,A,y,x⟩:=abF Tryz.zC;refine abp _ rfl (.tmp 9) (.tmp 11) 260 rfl w.heap.size 263 J _ 3 32 Tryz.underlying260 u A y x rfl (by decide) _ _ _ rfl ((B.alloc _).alloc _) ⟨w1.heap.size+1,0,none⟩ 1 1 [.int .u8 t.kind,.string t.text,.int .i64 t.at_] rfl rfl (en) (by simp[Value.oneCell']) eI (by omega) (by simp;omega) ?_;intro O w2 N D _;obtain⟨M,hblk⟩:=oL E V j D;have I:=aq hblk 0;have H:=aq hblk 1;have F:=aq hblk 2;simp only[aaV,abw,abY]at I H F;clear D B u A y x))
   go_roundg f
   case measure=>omega
   case rel=>
    refine⟨t.at_+t.text.size,i++[t],by omega,by omega,by simp;omega,by go_num, ?_,M,HN.out⟩;rw[kZ];simpa using N
/- axiomref: atom. -/
def JW(w:World)(ld:Option Addr)(lc:Nat)(T:List Ax.Tok):Prop:=
 w.ownsRow 0 263 3 (.slice ld T.length lc) T.length (dD (T.map Ax.conv))/\T.length<=1000/\Ax.Ends T/\Ax.ES T
theorem Ak(l k)(h:k<l.length):
 (dD l)[k*3]?=some (.int .u8 l[k].kind)/\(dD l)[k*3+1]?=some (.string l[k].text)/\(dD l)[k*3+2]?=some (.int .i64 l[k].at_):=by
 induction l generalizing k with
 | nil=>simp at h
 | cons a l ih=>
  cases k with
  | zero=>simp[dD]
  | succ k=>
   have:=ih k (by simpa using h);have e:∀j,(dD (a::l))[(k+1)*3+j]?=(dD l)[k*3+j]?:=by
    intro j;have:dD (a::l)=[.int .u8 a.kind,.string a.text,.int .i64 a.at_]++dD l:=by simp[dD]
    rw[this,abr (by simp;omega)];congr 1;simp;omega
   have i:=e 0;simp only[acV]at i;rw[i,e 1,e 2];simpa using this
theorem JW.cells{j T}(h:JW w j q T){t}(x:T[i]?=some t):
 ∃g,j=some ⟨g,0,none⟩/\g<w.heap.size/\T.length<=q/\w.cell? ⟨g,i*3,none⟩=some (.int .u8 (Ax.kc t.kind))/\w.cell? ⟨g,i*3+1,none⟩=some (.string t.text)/\w.cell? ⟨g,i*3+2,none⟩=some (.int .i64 t.at_)/\0<=t.kind/\t.kind<=8:=by
 obtain⟨u,rfl⟩:=iE x;obtain⟨g,rfl,y,A,e⟩:=aA h.1;obtain⟨c0,c1,c2⟩:=Ak (T.map Ax.conv) i (by simpa using u);simp only[adj,Ax.conv]at c0 c1 c2;exact⟨g,rfl,y,A,e _ _ c0,e _ _ c1,e _ _ c2,h.2.2.2 _ (IN u)⟩
theorem JW.below{e T}(h:JW w e i T)(j:Below w.heap.size w w'):JW w' e i T:=⟨ae h.1 j,h.2⟩
theorem tm(q:0<=k)(i:k<=8)(t:0<=j:=by decide)(e:j<=8:=by decide)(h:k≠j:=by omega):(((Ax.kc k:Nat):Int) != ((Ax.kc j:Nat):Int))=true:=by rw[Ax.VH k q i j t e];simpa using h
theorem nt(q:0<=k)(i:k<=8)(t:0<=j:=by decide)(e:j<=8:=by decide)(h:k=j:=by omega):(((Ax.kc k:Nat):Int) != ((Ax.kc j:Nat):Int))=false:=by grind
theorem OC(q:0<=k)(i:k<=8)(h:k=j)(t:0<=j:=by decide)(e:j<=8:=by decide):(((Ax.kc k:Nat):Int)==((Ax.kc j:Nat):Int))=true:=by grind
theorem Ji(q:0<=k)(i:k<=8)(h:k≠j)(t:0<=j:=by decide)(e:j<=8:=by decide):(((Ax.kc k:Nat):Int)==((Ax.kc j:Nat):Int))=false:=by rw[Ax.xY k q i j t e];simpa using h
theorem Ss(w:World)(q)(u:Nat)(T)(i:Nat)(h:JW w q u T){t:Ax.Tok}(x:Hid (T[i]?=some t))(B:Hid (t.kind≠2)):
 Calls prog 207 #[.slice q T.length u,.int .i64 i] w λe w'=>e=.returned (.tuple #[.agg #[.string t.text,.slice none 0 0,.slice none 0 0,.int .i64 t.at_],.int .i64 i,.bool false])/\Below w.heap.size w w':=by
 have I:=h.2.1;obtain⟨D,_⟩:=iE x.out;obtain⟨g,rfl,E,F,c0,c1,c2,A,y⟩:=h.cells x.out;have H:((Ax.kc t.kind:Int) != 110)=true:=tm (j:=2) A y (by decide) (by decide) B.out;clear h;generalize Ax.kc t.kind=K at*
 go_enter func207,ntmps207
 go_wp2_with fail
 go_region
 all_goals (go_wp2_with fail)
 exact aaT (by simp[results,Tryz.results207,go_sem]) rfl ⟨rfl,(aM.alloc (by simp) _).drew⟩
theorem Ux(w:World)(u)(x:Nat)(T)(i:Nat)(h:JW w u x T){t:Ax.Tok}(y:Hid (T[i]?=some t))(H:Hid (t.kind=2)){t':Ax.Tok}(q:Hid (T[i+1]?=some t'))(A:Hid (t'.kind≠4)):
 Calls prog 207 #[.slice u T.length x,.int .i64 i] w λe w'=>e=.returned (.tuple #[.agg #[.string t.text,.slice none 0 0,.slice none 0 0,.int .i64 t.at_],.int .i64 (i+1),.bool false])/\Below w.heap.size w w':=by
 have X:=h.2.1;obtain⟨O,_⟩:=iE y.out;obtain⟨I,_⟩:=iE q.out;obtain⟨J,M,_,_,Y,_,_,F,E⟩:=h.cells q.out;obtain⟨g,rfl,U,V,c0,c1,c2,D,B⟩:=h.cells y.out;obtain rfl:g=J:=by simpa using M
 have W:((Ax.kc t.kind:Int) != 110)=false:=nt (j:=2) D B (by decide) (by decide) H.out;have N:((Ax.kc t'.kind:Int) != 40)=true:=tm (j:=4) F E (by decide) (by decide) A.out;clear h;generalize Ax.kc t.kind=K at*;generalize Ax.kc t'.kind=Z at*
 go_enter func207,ntmps207
 go_wp2_with fail
 go_region
 all_goals (go_wp2_with fail)
 exact aaT (by simp[results,Tryz.results207,go_sem]) rfl ⟨rfl,(aM.alloc (by simp) _).drew⟩
/- axiomref: atom, the terms. -/
def dm(l:List Bool):List Value:=l.map .bool
theorem ph(l s):dm (l++[s])=dm l++[.bool s]:=by simp[dm]
theorem oZ(l s):strCells (l++[s])=strCells l++[.string s]:=by simp[strCells]
theorem Tryz.O7:(prog.info? 9).map (λi=>(i.zero,i.size,i.bytes))=some (some (.string ByteArray.empty),1,16):=by kernel_rfl
theorem Tryz.Pf:(prog.info? 4).map (λi=>(i.zero,i.size,i.bytes))=some (some (.bool false),1,1):=by kernel_rfl
def isVar(t:Ax.Term):Bool:=decide (t.kind=1)
def FN(T:List Ax.Tok)(a:Ax.Tok):Option (List Ax.Term)×Nat->Option Ax.Atom×Nat
 | (none,j)=>(none,j)
 | (some ts,j)=>if Ax.aS T j=5 then (some ⟨a.at_,a.text,ts⟩,j+1)else (none,j)
structure D7(w wr:World)(p:Ax.Tok)(tv vv:Value)(nT nV:Nat)(lT:List ByteArray)(lV:List Bool):Prop where
 b0:wr.heap[w.heap.size]?=some (.cells #[.string ⟨#[]⟩,.slice none 0 0,.slice none 0 0,.int .i64 0] 277 (0,0))
 b1:wr.heap[w.heap.size+1]?=some (.cells #[.string p.text,tv,vv,.int .i64 p.at_] 277 (0,0))
 oT:wr.ownsRow w.heap.size 9 1 tv nT (strCells lT)
 oV:wr.ownsRow w.heap.size 4 1 vv nV (dm lV)
 be:Below w.heap.size w wr
theorem cJ{r}(h:w.drew.grownBy w' r):w.grownBy w' r:=⟨h.os,h.tape,h.output,h.size,h.block⟩
theorem D7.grown{t q A y o row e'}(h:D7 w wr p t q A y lT lV)(i:(wr.alloc o).grownBy e row)
 (D:∀k,row=some k->∃j fz,(wr.alloc o).heap[k]?=some (.cells j e' fz))(B:∀k,row=some k->w.heap.size<=k)(E:277≠e'):
 e.heap[w.heap.size]?=some (.cells #[.string ⟨#[]⟩,.slice none 0 0,.slice none 0 0,.int .i64 0] 277 (0,0))/\e.heap[w.heap.size+1]?=some (.cells #[.string p.text,t,q,.int .i64 p.at_] 277 (0,0))/\Below w.heap.size w e:=by
 have x:=(aay wr o _ (lt_of_heap h.b0)).trans h.b0;have u:=(aay wr o _ (lt_of_heap h.b1)).trans h.b1;refine⟨?_, ?_,(h.be.alloc h.be.size o).grown i (by have:=h.be.size;simp;omega) B⟩
 ·rw[i.block _ (lt_of_heap x) ?_]
  ·exact x
  ·grind
 ·rw[i.block _ (lt_of_heap u) ?_]
  ·exact u
  ·grind
theorem D7.aen{y i tv'}
 (D:e.heap[w.heap.size]?=some (.cells #[.string ⟨#[]⟩,.slice none 0 0,.slice none 0 0,.int .i64 0] 277 (0,0)))(x:e.heap[w.heap.size+1]?=some (.cells #[.string p.text,y,i,.int .i64 p.at_] 277 (0,0)))(B:Below w.heap.size w e)
 (oT:e.ownsRow w.heap.size 9 1 tv' t (strCells lT))(oV:e.ownsRow w.heap.size 4 1 i q (dm lV)):D7 w (e.setCell ⟨w.heap.size+1,1,none⟩ tv') p tv' i t q lT lV:=by
 have u:∀k,(some (w.heap.size+1):Option Nat)=some k->∃j fz,e.heap[k]?=some (.cells j 277 fz):=λk A=>by cases A;exact⟨_,_,x⟩
 exact⟨(abO _ _ _ _ (by simp)).trans D,by rw[heap_setCell_same x];rfl,aB oT (grownBy_setCell _ _) u,aB oV (grownBy_setCell _ _) u,B.setCell (by simp) _⟩
theorem D7.aba{i y vv'}
 (D:e.heap[w.heap.size]?=some (.cells #[.string ⟨#[]⟩,.slice none 0 0,.slice none 0 0,.int .i64 0] 277 (0,0)))(x:e.heap[w.heap.size+1]?=some (.cells #[.string p.text,i,y,.int .i64 p.at_] 277 (0,0)))(B:Below w.heap.size w e)
 (oT:e.ownsRow w.heap.size 9 1 i t (strCells lT))(oV:e.ownsRow w.heap.size 4 1 vv' q (dm lV)):D7 w (e.setCell ⟨w.heap.size+1,2,none⟩ vv') p i vv' t q lT lV:=by
 have u:∀k,(some (w.heap.size+1):Option Nat)=some k->∃j fz,e.heap[k]?=some (.cells j 277 fz):=λk A=>by cases A;exact⟨_,_,x⟩
 exact⟨(abO _ _ _ _ (by simp)).trans D,by rw[heap_setCell_same x];rfl,aB oT (grownBy_setCell _ _) u,aB oV (grownBy_setCell _ _) u,B.setCell (by simp) _⟩
theorem D7.finish{i e B A}(h:D7 w wr p i e B A lT lV):
 ((((wr.setCell ⟨w.heap.size,0,none⟩ (.string p.text)).setCell ⟨w.heap.size,1,none⟩ i).setCell ⟨w.heap.size,2,none⟩ e).setCell ⟨w.heap.size,3,none⟩ (.int .i64 p.at_)).heap[w.heap.size]?=some (.cells #[.string p.text,i,e,.int .i64 p.at_] 277 (0,0))/\
 Below w.heap.size w ((((wr.setCell ⟨w.heap.size,0,none⟩ (.string p.text)).setCell ⟨w.heap.size,1,none⟩ i).setCell ⟨w.heap.size,2,none⟩ e).setCell ⟨w.heap.size,3,none⟩ (.int .i64 p.at_))/\
 ((((wr.setCell ⟨w.heap.size,0,none⟩ (.string p.text)).setCell ⟨w.heap.size,1,none⟩ i).setCell ⟨w.heap.size,2,none⟩ e).setCell ⟨w.heap.size,3,none⟩ (.int .i64 p.at_)).ownsRow w.heap.size 9 1 i B (strCells lT)/\
 ((((wr.setCell ⟨w.heap.size,0,none⟩ (.string p.text)).setCell ⟨w.heap.size,1,none⟩ i).setCell ⟨w.heap.size,2,none⟩ e).setCell ⟨w.heap.size,3,none⟩ (.int .i64 p.at_)).ownsRow w.heap.size 4 1 e A (dm lV):=by
 have y:=h.b0;have x:=heap_setCell_same (off:=0) y (.string p.text);have u:=heap_setCell_same (off:=1) x i;have t:=heap_setCell_same (off:=2) u e;have D:=heap_setCell_same (off:=3) t (.int .i64 p.at_);have k:∀{w':World} {q:Array Value} (_:w'.heap[w.heap.size]?=some (.cells q 277 (0,0))) (j:Nat),(some w.heap.size:Option Nat)=some j->∃q fz,w'.heap[j]?=some (.cells q 277 fz):=λE j F=>by cases F;exact⟨_,_,E⟩
 refine⟨by rw[D];rfl,(((h.be.setCell (OF _) _).setCell (OF _) _).setCell (OF _) _).setCell (OF _) _, ?_, ?_⟩
 ·exact aB (aB (aB (aB h.oT (grownBy_setCell _ _) (k y)) (grownBy_setCell _ _) (k x)) (grownBy_setCell _ _) (k u)) (grownBy_setCell _ _) (k t)
 ·exact aB (aB (aB (aB h.oV (grownBy_setCell _ _) (k y)) (grownBy_setCell _ _) (k x)) (grownBy_setCell _ _) (k u)) (grownBy_setCell _ _) (k t)
theorem bw{B a b c d t}(h:e.heap[B]?=some (.cells #[a,b,c,d] t (0,0))):
 e.cell? ⟨B,0,none⟩=some a/\e.cell? ⟨B,1,none⟩=some b/\e.cell? ⟨B,2,none⟩=some c/\e.cell? ⟨B,3,none⟩=some d/\e.frozen? ⟨B,0,none⟩=false/\e.frozen? ⟨B,1,none⟩=false/\e.frozen? ⟨B,2,none⟩=false/\e.frozen? ⟨B,3,none⟩=false/\B<e.heap.size:=by
 refine⟨?_, ?_, ?_, ?_,aJ h 0,aJ h 1,aJ h 2,aJ h 3,lt_of_heap h⟩<;>rw[aq h]<;>rfl
theorem Gm{e x j b}(h:D7 w wr p (.slice (some ⟨t,0,none⟩) (e.length+1) j) (.slice (some ⟨q,0,none⟩) (e.length+1) i) (e.length+1) (e.length+1) (e.map Ax.Term.text++[x.text]) (e.map isVar++[b]))(u:Hid (isVar x=b)):
 D7 w wr p (.slice (some ⟨t,0,none⟩) (e++[x]).length j) (.slice (some ⟨q,0,none⟩) (e++[x]).length i) (e++[x]).length (e++[x]).length ((e++[x]).map Ax.Term.text) ((e++[x]).map isVar):=by
 rw[aa6,aa6,aes,aes,u.out,If,ab6];exact h
def D8(w:World)(R:Option Ax.Atom×Nat)(e:Ending)(w':World):Prop:=Below w.heap.size w w'/\
 ((∃a td tc vd vc,R.1=some a/\e=.returned (.tuple #[.agg #[.string (Ax.Atom.pred a),.slice td a.af.length tc,.slice vd a.af.length vc,.int .i64 a.at_],.int .i64 R.2,.bool true])/\w'.ownsRow w.heap.size 9 1 (.slice td a.af.length tc) a.af.length (strCells (a.af.map Ax.Term.text))/\w'.ownsRow w.heap.size 4 1 (.slice vd a.af.length vc) a.af.length (dm (a.af.map isVar)))\/
  (∃x td n tc vd m vc y,R.1=none/\e=.returned (.tuple #[.agg #[.string x,.slice td n tc,.slice vd m vc,.int .i64 y],.int .i64 R.2,.bool false])))
theorem zi{R e x u j b}(y:Hid (R=(some ⟨p.at_,p.text,e++[x]⟩,q+1+1)))(A:Hid (isVar x=b))(B:Below w.heap.size w w')
 (oT:w'.ownsRow w.heap.size 9 1 (.slice (some ⟨u,0,none⟩) (e.length+1) j) (e.length+1) (strCells (e.map Ax.Term.text++[x.text])))(oV:w'.ownsRow w.heap.size 4 1 (.slice (some ⟨t,0,none⟩) (e.length+1) i) (e.length+1) (dm (e.map isVar++[b]))):
 D8 w R (.returned (.tuple #[.agg #[.string p.text,.slice (some ⟨u,0,none⟩) (e.length+1) j,.slice (some ⟨t,0,none⟩) (e.length+1) i,.int .i64 p.at_],.int .i64 (q+1+1),.bool true])) w':=by
 refine⟨B,.inl ⟨⟨p.at_,p.text,e++[x]⟩,some ⟨u,0,none⟩,j,some ⟨t,0,none⟩,i,by rw[y.out], ?_, ?_, ?_⟩⟩
 ·rw[y.out];simp
 ·simpa using oT
 ·rw[aa6,aes,A.out];simpa using oV
theorem ud{R}{j:Nat}{x:ByteArray}{td}{tc:Nat}{vd}{m vc:Nat}{y e:Int}(i:Hid (R=(none,j)))(t:Below w.heap.size w w')(q:e=j:=by omega):
 D8 w R (.returned (.tuple #[.agg #[.string x,.slice td n tc,.slice vd m vc,.int .i64 y],.int .i64 e,.bool false])) w':=
 ⟨t,.inr ⟨x,td,n,tc,vd,m,vc,y,by rw[i.out],by rw[i.out,q]⟩⟩
variable{row:Option Nat}{e':TypeId}{w w':World}
structure QA where
 a:Ax.Atom
 td:Option Addr
 tc:Nat
 vd:Option Addr
 vc:Nat
def QA.ok(w:World)(x:QA):Prop:=w.ownsRow 0 9 1 (.slice x.td x.a.af.length x.tc) x.a.af.length (strCells (x.a.af.map Ax.Term.text))/\w.ownsRow 0 4 1 (.slice x.vd x.a.af.length x.vc) x.a.af.length (dm (x.a.af.map isVar))
def cN(l:List QA):List Value:=l.flatMap λx=>[.string x.a.pred,.slice x.td x.a.af.length x.tc,.slice x.vd x.a.af.length x.vc,.int .i64 x.a.at_]
theorem DF(l x):cN (l++[x])=cN l++[.string x.a.pred,.slice x.td x.a.af.length x.tc,.slice x.vd x.a.af.length x.vc,.int .i64 x.a.at_]:=by simp[cN]
def EV(w:World)(l:List QA):Prop:=∀x,x∈l->x.ok w
theorem Ud:EV w []:=λ_ h=>by cases h
theorem QA.below{x:QA}(h:x.ok w)(e:Below w.heap.size w w'):x.ok w':=⟨ae h.1 e,ae h.2 e⟩
theorem kF{l}(h:EV w l)(i:Below w.heap.size w w'):EV w' l:=λx e=>QA.below (h x e) i
theorem QA.type{x:QA}(h:x.ok w)(j:w.grownBy w' row)(i:∀k,row=some k->∃e fz,w.heap[k]?=some (.cells e e' fz))(t:9≠e')(q:4≠e'):x.ok w':=
 ⟨aB h.1 j i t,aB h.2 j i q⟩
theorem xS{l}(h:EV w l)(q:w.grownBy w' row)(j:∀k,row=some k->∃e fz,w.heap[k]?=some (.cells e e' fz))(u:9≠e':=by decide)(t:4≠e':=by decide):EV w' l:=
 λx i=>QA.type (h x i) q j u t
theorem Qt{l x}(h:EV w l)(e:x.ok w):EV w (l++[x]):=by grind [EV]
theorem Tryz.PX:(prog.info? 277).map (λi=>(i.zero,i.size,i.bytes))=some (some (.agg #[.string ByteArray.empty,.slice none 0 0,.slice none 0 0,.int .i64 0]),4,72):=by kernel_rfl
theorem Tryz.Wf:(prog.info? 280).map (λi=>(i.zero,i.size,i.bytes))=some (some (.agg #[.string ByteArray.empty,.slice none 0 0,.slice none 0 0,.int .i64 0,.slice none 0 0]),5,96):=by kernel_rfl
theorem jD(l k)(h:k<l.length):
 (cN l)[k*4]?=some (.string (l[k]).a.pred)/\(cN l)[k*4+1]?=some (.slice (l[k]).td (l[k]).a.af.length (l[k]).tc)/\(cN l)[k*4+2]?=some (.slice (l[k]).vd (l[k]).a.af.length (l[k]).vc)/\(cN l)[k*4+3]?=some (.int .i64 (l[k]).a.at_):=by
 induction l generalizing k with
 | nil=>simp at h
 | cons a l ih=>
  cases k with
  | zero=>simp[cN]
  | succ k=>
   have:=ih k (by simpa using h);have e:∀j,(cN (a::l))[(k+1)*4+j]?=(cN l)[k*4+j]?:=by
    intro j;have:cN (a::l)=[.string a.a.pred,.slice a.td a.a.af.length a.tc,.slice a.vd a.a.af.length a.vc,.int .i64 a.a.at_]++cN l:=by simp[cN]
    rw[this,abr (by simp;omega)];congr 1;simp;omega
   have i:=e 0;simp only[acV]at i;rw[i,e 1,e 2,e 3];simpa using this
theorem Gq(l):(cN l).length=l.length*4:=by induction l with | nil=>rfl | cons a l ih=>simp[cN]at ih ⊢;omega
theorem Gn(l):∀u∈cN l,u.oneCell'=true:=by
 intro u e;simp only[cN,aa9,BY,acC,aeH]at e;obtain⟨x,i,e⟩:=e;rcases e with rfl | rfl | rfl | rfl<;>rfl
structure QR where
 head:QA
 bd:Option Addr
 bc:Nat
 body:List QA
def QR.ok(w:World)(r:QR):Prop:=r.head.ok w/\w.ownsRow 0 277 4 (.slice r.bd r.body.length r.bc) r.body.length (cN r.body)/\EV w r.body
def QR.aw(r:QR):Ax.aI:=⟨r.head.a,r.body.map QA.a⟩
def cV(l:List QR):List Value:=l.flatMap λr=>[.string r.head.a.pred,.slice r.head.td r.head.a.af.length r.head.tc,.slice r.head.vd r.head.a.af.length r.head.vc,.int .i64 r.head.a.at_,.slice r.bd r.body.length r.bc]
theorem C9(l r):cV (l++[r])=cV l++[.string r.head.a.pred,.slice r.head.td r.head.a.af.length r.head.tc,.slice r.head.vd r.head.a.af.length r.head.vc,.int .i64 r.head.a.at_,.slice r.bd r.body.length r.bc]:=by simp[cV]
def QA.rK(B:Nat)(x:QA):Prop:=∀q,(Value.slice x.td x.a.af.length x.tc).ownBlock=some q->B<=q
def QR.rK(B:Nat)(r:QR):Prop:=r.head.rK B/\∀x,x∈r.body->x.rK B
theorem QA.rK.mono{A B:Nat}{x:QA}(h:x.rK B)(e:A<=B):x.rK A:=λq i=>aaK e (h q i)
theorem QR.below{r:QR}(h:r.ok w)(e:Below w.heap.size w w'):r.ok w':=⟨QA.below h.1 e,ae h.2.1 e,kF h.2.2 e⟩
theorem QR.type{r:QR}(h:r.ok w)(i:w.grownBy w' row)(e:∀k,row=some k->∃j fz,w.heap[k]?=some (.cells j e' fz))(t:9≠e')(q:4≠e')(u:277≠e'):r.ok w':=
 ⟨QA.type h.1 i e t q,aB h.2.1 i e u,xS h.2.2 i e t q⟩
theorem Fy(l k)(h:k<l.length):
 (cV l)[k*5]?=some (.string (l[k]).head.a.pred)/\(cV l)[k*5+1]?=some (.slice (l[k]).head.td (l[k]).head.a.af.length (l[k]).head.tc)/\(cV l)[k*5+2]?=some (.slice (l[k]).head.vd (l[k]).head.a.af.length (l[k]).head.vc)/\(cV l)[k*5+3]?=some (.int .i64 (l[k]).head.a.at_)/\(cV l)[k*5+4]?=some (.slice (l[k]).bd (l[k]).body.length (l[k]).bc):=by
 induction l generalizing k with
 | nil=>simp at h
 | cons a l ih=>
  cases k with
  | zero=>simp[cV]
  | succ k=>
   have:=ih k (by simpa using h);have e:∀j,(cV (a::l))[(k+1)*5+j]?=(cV l)[k*5+j]?:=by
    intro j;have:cV (a::l)=[.string a.head.a.pred,.slice a.head.td a.head.a.af.length a.head.tc,.slice a.head.vd a.head.a.af.length a.head.vc,.int .i64 a.head.a.at_,.slice a.bd a.body.length a.bc]++cV l:=by simp[cV]
    rw[this,abr (by simp;omega)];congr 1;simp;omega
   have i:=e 0;simp only[acV]at i;rw[i,e 1,e 2,e 3,e 4];simpa using this
def dz(w:World)(rd:Option Addr)(rc:Nat)(l:List QR):Prop:=
 w.ownsRow 0 280 5 (.slice rd l.length rc) l.length (cV l)/\(∀r,r∈l->r.ok w/\r.body.length<=1000)
theorem dz.below{rd rc l}(h:dz w rd rc l)(i:Below w.heap.size w w'):dz w' rd rc l:=⟨ae h.1 i,λr e=>⟨QR.below (h.2 r e).1 i,(h.2 r e).2⟩⟩
theorem dz.at{rd rc l}(h:dz w rd rc l){k}(i:k<l.length):
 ∃g r,rd=some ⟨g,0,none⟩/\g<w.heap.size/\l.length<=rc/\w.cell? ⟨g,k*5,none⟩=some (.string (QA.a (QR.head r)).pred)/\w.cell? ⟨g,k*5+1,none⟩=some (.slice r.head.td r.head.a.af.length r.head.tc)/\w.cell? ⟨g,k*5+2,none⟩=some (.slice r.head.vd r.head.a.af.length r.head.vc)/\
  w.cell? ⟨g,k*5+3,none⟩=some (.int .i64 r.head.a.at_)/\w.cell? ⟨g,k*5+4,none⟩=some (.slice r.bd r.body.length r.bc)/\r.ok w/\r.body.length<=1000/\Hid (l[k]=r):=by
 obtain⟨g,rfl,j,q,e⟩:=aA h.1;have hm:=IN i;obtain⟨u,t⟩:=h.2 _ hm;obtain⟨c0,c1,c2,y,x⟩:=Fy l k i;exact⟨g,l[k],rfl,j,q,e _ _ c0,e _ _ c1,e _ _ c2,e _ _ y,e _ _ x,u,t,rfl⟩
theorem jB(x y:ByteArray):(x.toList==y.toList)=decide (x=y):=by
 rw[abH];simp only[aeV,abW];refine⟨λh=>?_,λh=>by rw[h]⟩;rw[toList_eq,toList_eq]at h;cases x;cases y;simpa using h
theorem Qn{o e x y z u}:((w.alloc o).alloc (.cells #[x,y,z,u] e)).ownsRow (w.heap.size+1) e 4 (.slice (some ⟨w.heap.size+1,0,none⟩) 1 1) 1 [x,y,z,u]:=by
 have:=ownsRow_lit (w:=w.alloc o) (b:=w.heap.size+1) (e:=e) (xs:=[x,y,z,u]) (size:=4) rfl;rw[abb]at this;exact this
theorem EC(r:QR)(h:r.ok w)(U:r.body.length<=1000):
 Calls prog 208 #[.agg #[.string r.head.a.pred,.slice r.head.td r.head.a.af.length r.head.tc,.slice r.head.vd r.head.a.af.length r.head.vc,.int .i64 r.head.a.at_,.slice r.bd r.body.length r.bc]] w λe w'=>∃u t,e=.returned (.slice u (r.body.length+1) t)/\w'.ownsRow 0 277 4 (.slice u (r.body.length+1) t) (r.body.length+1) (cN (r.head::r.body))/\EV w' (r.head::r.body)/\Below w.heap.size w w':=by
 obtain⟨D,E,cE,Z,X⟩:=abF Tryz.PX;rcases r with⟨⟨a,td,tc,vd,vc⟩,bd,bc,l⟩;obtain⟨F,q,A⟩:=h;simp only at F q A U ⊢;have N:EV w (⟨a,td,tc,vd,vc⟩::l):=by
  intro x y;rcases BY.1 y with rfl | y
  ·exact F
  ·exact A x y
 have H:=Gn l;have hlen:=Gq l;have I:∀w',Below w.heap.size w w'->EV w' (⟨a,td,tc,vd,vc⟩::l):=λw' O=>kF N O;have J:Hid (cN (⟨a,td,tc,vd,vc⟩::l)=[.string a.pred,.slice td a.af.length tc,.slice vd a.af.length vc,.int .i64 a.at_]++cN l):=by simp[Hid,cN]
 rcases q.2 with⟨i,W⟩ | ⟨g,cap,Y,i,_,hg,Ev,_⟩
 ·simp only[abi]at i;obtain⟨rfl,_,rfl⟩:=i;obtain rfl:l=[]:=abR W;simp only[adC]at*;clear H hlen A
  go_enter func208,ntmps208
  go_wp2_with (at_builtin;refine ad3 rfl (.tmp 7) (.tmp 9) 278 rfl (w.heap.size+1) 277 D 4 Tryz.underlying278 E _ _ _ rfl (Qn) rfl ?_)
  go_ret;have j:Below w.heap.size w ((w.alloc (.cells #[.string a.pred,.slice td a.af.length tc,.slice vd a.af.length vc,.int .i64 a.at_,.slice none 0 0] 280)).alloc (.cells #[.string a.pred,.slice td a.af.length tc,.slice vd a.af.length vc,.int .i64 a.at_] 277)):=aM.alloc (by simp) _;exact⟨_,_,rfl,by rw[J.out];exact aD (Qn) (IS _),I _ j,j⟩
 ·simp only[abi]at i;obtain⟨rfl,_,rfl⟩:=i;have bA:=acw q (g:=g) rfl
  go_enter func208,ntmps208
  go_wp2_with (at_builtin;refine abp _ rfl (.tmp 7) (.tmp 9) 278 rfl (w.heap.size+1) 277 D _ 4 72 Tryz.underlying278 E cE Z X rfl (by decide) _ _ _ rfl (Qn) ⟨g,0,none⟩ l.length bc (cN l) rfl hlen (acw ((q.alloc _).alloc _) (g:=g) rfl) H eI (by omega) (by simp) ?_;intro v2 w2 B bq _;obtain⟨u,t,rfl⟩:=ah B)
  go_ret;have j:Below w.heap.size w w2:=by
   refine(aM.alloc (by simp) _).grown bq (by simp;omega) ?_;intro k V;have M:some (w.heap.size+1)=some k:=V;simp only[AT]at M;omega
  rw[Nat.add_comm 1 l.length]at B;refine⟨u,t,by rw[Nat.add_comm 1 l.length];rfl, ?_,I _ j,j⟩;rw[J.out];exact aD B (IS _)
/- The reference's predicates as plain functions. No program here. -/
namespace Ax
def ix(p:ByteArray):List (ByteArray×Nat)->Nat->Int->Int
 | [],_,n=>n
 | x::l,j,n=>ix p l (j+1) (if x.1=p then (j:Int)else n)
def tu(o:List (ByteArray×Nat))(n:Nat):Nat:=((o[n]?).map Prod.snd).getD 0
def bS(st:List (ByteArray×Nat)×Int)(a:Atom):List (ByteArray×Nat)×Int:=
 if ix a.pred st.1 0 (-1)<0 then (st.1++[(a.pred,a.af.length)],st.2)
 else if st.2<0/\tu st.1 (ix a.pred st.1 0 (-1)).toNat≠a.af.length then (st.1,a.at_)else st
def gX(l:List Atom):List (ByteArray×Nat)×Int:=l.foldl bS ([],-1)
theorem J5(p):∀(l:List (ByteArray×Nat)) (pre:List (ByteArray×Nat)) (n:Int),(n=-1/\(∀x∈pre,x.1≠p)\/∃m:Nat,n=m/\∃x,pre[m]?=some x/\x.1=p)->
 (ix p l pre.length n=-1/\(∀x∈pre++l,x.1≠p))\/∃m:Nat,ix p l pre.length n=m/\∃x,(pre++l)[m]?=some x/\x.1=p
 | [],pre,n,h=>by simpa [ix]using h
 | y::l,pre,n,h=>by
  have:=J5 p l (pre++[y]) (if y.1=p then (pre.length:Int)else n) ?_
  ·simpa [ix]using this
  ·by_cases hy:y.1=p
   ·right;exact⟨pre.length,by simp[hy],y,by simp,hy⟩
   ·rw[aaD hy];rcases h with⟨j,i⟩ | ⟨m,j,x,i,q⟩
    ·left;refine⟨j, ?_⟩;intro x e;rcases ZD.1 e with e | e
     ·exact i x e
     ·simp at e;subst e;exact hy
    ·right;refine⟨m,j,x, ?_,q⟩;rw[acx]
     ·exact i
     ·exact(abt.1 i).1
theorem JY(p l):(ix p l 0 (-1)=-1/\∀x∈l,x.1≠p)\/∃m:Nat,ix p l 0 (-1)=m/\∃x,l[m]?=some x/\x.1=p:=by
 have:=J5 p l [] (-1) (.inl ⟨rfl,λx e=>by cases e⟩);simpa using this
theorem IX(st a):(bS st a).1.map Prod.fst=if has (st.1.map Prod.fst) a.pred then st.1.map Prod.fst else st.1.map Prod.fst++[a.pred]:=by
 unfold bS;rcases JY a.pred st.1 with⟨h,t⟩ | ⟨m,h,x,j,u⟩
 ·have i:has (st.1.map Prod.fst) a.pred=false:=by
   rw[acZ];intro q;rw[wa,aax]at q;obtain⟨x,j,e⟩:=q;exact t x j e
  simp[h,i]
 ·have i:has (st.1.map Prod.fst) a.pred=true:=by
   rw[wa,aax];grind
  rw[i,aa3 rfl,aaD (by omega)];split<;>rfl
theorem xH:∀(l:List Atom) (st:List (ByteArray×Nat)×Int),(l.foldl bS st).1.map Prod.fst=bH (st.1.map Prod.fst) l
 | [],st=>rfl
 | a::l,st=>by
  rw[aeD,xH l,IX];rfl
theorem yj(st a)(h:¬st.2<0):(bS st a).2=st.2:=by grind [bS]
theorem xj:∀(l:List Atom) (st:List (ByteArray×Nat)×Int),¬st.2<0->(l.foldl bS st).2=st.2
 | [],st,_=>rfl
 | a::l,st,h=>by
  rw[aeD,xj l _ (by rw[yj st a h];exact h),yj st a h]
def Alike(o m:List (ByteArray×Nat)):Prop:=∀p,look o p=look m p
def Lg(o:List (ByteArray×Nat)):Prop:=(o.map Prod.fst).Nodup
theorem mR(o p)(h:∀x∈o,x.1≠p):look o p=none:=by
 unfold look;rw[List.find?_eq_none.2 (λx e=>by simpa using h x e)];rfl
theorem T3(o)(i:Lg o)(m:Nat)(x:ByteArray×Nat)(h:o[m]?=some x):look o x.1=some x.2:=by
 induction o generalizing m with
 | nil=>simp at h
 | cons y o ih=>
  unfold look;by_cases e:y.1=x.1
  ·simp only[aeq,e,decide_true,Option.map_some];cases m with
   | zero=>simp at h;rw[h]
   | succ m=>
    simp only[abY]at h;have hm:x.1∈o.map Prod.fst:=aax.2 ⟨x,adW h,rfl⟩;unfold Lg at i;rw[abn,adH]at i;exact absurd (e▸hm) i.1
  ·simp only[aeq,e,decide_false];cases m with
   | zero=>simp at h;rw[h]at e;exact absurd rfl e
   | succ m=>
    unfold Lg at i;rw[abn,adH]at i;exact ih i.2 m (by simpa using h)
theorem xI:∀(l:List Atom) (o m:List (ByteArray×Nat)),Lg o->Alike o m->
 (l.foldl bS (o,-1)).2=match dt m l with | some p=>(p:Int) | none=>-1
 | [],o,m,_,_=>rfl
 | a::l,o,m,u,y=>by
  rw[aeD];unfold dt;rw[<-y a.pred];rcases JY a.pred o with⟨h,w⟩ | ⟨k,h,x,i,t⟩
  ·rw[mR o a.pred w];have e:bS (o,-1) a=(o++[(a.pred,a.af.length)],-1):=by simp[bS,h]
   rw[e];refine xI l _ _ ?_ ?_
   ·unfold Lg;rw[aa6,adn];refine⟨u,by simp, ?_⟩;intro p t q B;simp at B;subst B;obtain⟨x,i,rfl⟩:=aax.1 t;exact w x i
   ·intro p;have hm:=y p;unfold look at hm ⊢;rw[List.find?_append,aeq];by_cases e:a.pred=p
    ·subst e;have:=mR o a.pred w;unfold look at this;rw[Option.map_eq_none_iff]at this;simp[this]
    ·simp only[e,decide_false,aeq,List.find?_nil,Option.or_none];exact hm
  ·have A:=T3 o u k x i;rw[t]at A;rw[A];have D:tu o k=x.2:=by simp[tu,i]
   simp only;by_cases j:x.2=a.af.length
   ·rw[aa3 j];have e:bS (o,-1) a=(o,-1):=by
     unfold bS;simp only;rw[aaD (by omega),aaD (by rw[h,Int.toNat_natCast,D];simp[j])]
    rw[e];exact xI l o m u y
   ·rw[aaD j];have e:bS (o,-1) a=(o,(a.at_:Int)):=by
     unfold bS;simp only;rw[aaD (by omega),aa3 ⟨by omega,by rw[h,Int.toNat_natCast,D];exact j⟩]
    rw[e,xj l _ (by simp)]
theorem yX(l):(gX l).2=match dt [] l with | some p=>(p:Int) | none=>-1:=xI l [] [] (by simp[Lg]) (λ_=>rfl)
theorem sO(l):(gX l).1.map Prod.fst=bH [] l:=xH l _
end Ax
/- axiomref: preds. -/
def cA(l:List (ByteArray×Nat)):List Value:=l.flatMap λx=>[.string x.1,.int .i64 x.2]
theorem DZ(l x):cA (l++[x])=cA l++[.string x.1,.int .i64 x.2]:=by simp[cA]
theorem dY(l k)(h:k<l.length):(cA l)[k*2]?=some (.string (l[k]).1)/\(cA l)[k*2+1]?=some (.int .i64 (l[k]).2):=by
 induction l generalizing k with
 | nil=>simp at h
 | cons a l ih=>
  cases k with
  | zero=>simp[cA]
  | succ k=>
   have:=ih k (by simpa using h);have e:∀j,(cA (a::l))[(k+1)*2+j]?=(cA l)[k*2+j]?:=by
    intro j;have:cA (a::l)=[.string a.1,.int .i64 a.2]++cA l:=by simp[cA]
    rw[this,abr (by simp;omega)];congr 1;simp;omega
   have i:=e 0;simp only[acV]at i;rw[i,e 1];simpa using this
theorem Tryz.M0:(prog.info? 264).map (λi=>(i.zero,i.size,i.bytes))=some (some (.agg #[.string ByteArray.empty,.int .i64 0]),2,24):=by kernel_rfl
theorem Jy{l}(h:EV w l)(i:Lib.OthersKept e' none w w')(q:9≠e')(j:4≠e'):EV w' l:=λx e=>⟨cI (h x e).1 i q,cI (h x e).2 i j⟩
structure kz(w wr:World)(od:Option Addr)(oc:Nat)(o:List (ByteArray×Nat)):Prop where
 own:wr.ownsRow w.heap.size 264 2 (.slice od o.length oc) o.length (cA o)
 be:Below w.heap.size w wr
theorem K8{w1 w2 wr x}{j:Option Addr}{t B E i k:Nat}{o:List (ByteArray×Nat)}{L:List QA}{u:Int}{p}{n:Nat}{Y:List (ByteArray×Nat)×Int}
 (U:x.ownsRow w.heap.size 264 2 (.slice (some ⟨B,0,none⟩) (o.length+1) E) (o.length+1) (cA o++[.string p,.int .i64 n]))(O:(wr.alloc (.cells #[.string p,.int .i64 n] 264)).drew.grownBy x (Value.slice j o.length t).ownBlock)
 (H:wr.ownsRow w.heap.size 264 2 (.slice j o.length t) o.length (cA o))(I:kz w w2 j t o)(D:Below w2.heap.size w2 wr)(J:w.heap.size<=w2.heap.size)(M:Lib.OthersKept 264 none w1 w2)(_:k<=L.length)(X:k<L.length)(V:-1<=u)(jE:o.length<=i*1001+k)
 (W:Hid (((L.map QA.a).drop (k+1)).foldl Ax.bS (o++[(p,n)],u)=Y)):
 ∃(A:Nat) (j:Option Addr) (t:Nat) (y:List (ByteArray×Nat)) (e:Int),A<=L.length/\Value.int .i64 (k+1)=.int .i64 A/\Value.slice (some ⟨B,0,none⟩) (o.length+1) E=.slice j y.length t/\Value.int .i64 u=.int .i64 e/\-1<=e/\kz w x j t y/\Lib.OthersKept 264 none w1 x/\y.length<=i*1001+A/\((L.map QA.a).drop A).foldl Ax.bS (y,e)=Y:=by
 have F:=cJ (w:=wr.alloc (.cells #[.string p,.int .i64 n] 264)) O;have Z:=D.size;refine⟨k+1,some ⟨B,0,none⟩,E,o++[(p,n)],u,by omega,by simp,by simp,rfl,V,⟨?_, ?_⟩, ?_,by simp;omega,W.out⟩
 ·rw[DZ];simpa using U
 ·exact((I.be.trans (D.mono J)).alloc (by omega) _).grown F (by simp;omega) (λq N=>(H.lt q N).1)
 ·exact((M.trans (eH D)).alloc _).grown F (au (H.alloc _))
theorem rT(w rd rc l)(h:dz w rd rc l)(nX:l.length<=1000):
 Calls prog 148 #[.slice rd l.length rc] w λe w'=>∃u t o,e=.returned (.tuple #[.slice u (List.length o) t,.int .i64 (Ax.gX ((l.map QR.aw).flatMap Ax.aI.atoms)).2])/\Hid (o=(Ax.gX ((l.map QR.aw).flatMap Ax.aI.atoms)).1)/\kz w w' u t o:=by
 generalize hZ:Ax.gX ((l.map QR.aw).flatMap Ax.aI.atoms)=Z
 go_enter func148,ntmps148
 go_wp2_with fail
 go_loopw [4,5,6] (λov wv iv wr=>∃(i:Nat) (u:Option Addr) (t:Nat) (o:List (ByteArray×Nat)) (q:Int),i<=l.length/\iv=.int .i64 i/\ov=.slice u o.length t/\wv=.int .i64 q/\-1<=q/\kz w wr u t o/\o.length<=i*1001/\(((l.map QR.aw).drop i).flatMap Ax.aI.atoms).foldl Ax.bS (o,q)=Z) (λ_ _ iv _=>l.length-(intOf iv).toNat)
 ·exact⟨0,none,0,[],-1,IS _,rfl,rfl,rfl,by omega,⟨aaM _ _ _ _,aaj _ _⟩,by simp,hZ⟩
 ·
  obtain⟨i,u,t,o,q,hi,rfl,rfl,rfl,M,A,jE,hr⟩:=hrel;have HR:=aj hr;clear hr hZ;obtain⟨w0,rfl⟩:∃x,x=wr:=⟨_,rfl⟩;have cp:=A.be.size;by_cases aL:i<l.length
  ·obtain⟨g,r,rfl,hg,kW,d0,d1,d2,d3,d4,GJ,eB,dh⟩:=(h.below A.be).at aL;have E:(l.map QR.aw).drop i=r.aw::(l.map QR.aw).drop (i+1):=by
    rw[aan (by simpa using aL)];simp[dh.out]
   rw[E,aaW,List.foldl_append]at HR;clear E dh;obtain⟨Y,hY⟩:∃Y,(r.aw.atoms).foldl Ax.bS (o,q)=Y:=⟨_,rfl⟩;rw[hY]at HR;have I:((r.head::r.body).map QA.a).foldl Ax.bS (o,q)=Y:=hY;clear hY
   go_wp2_with (go_at_call 208;refine(EC r GJ eB).mono ?_;rintro e w1 ⟨EH,c',rfl,lz,fY,aV⟩)
   generalize hL:r.head::r.body=L at lz fY I;have P5:L.length=r.body.length+1:=by rw[<-hL];rfl
   rw[<-P5]at lz ⊢;clear hL;have HY:=aj I;clear I GJ;have hLa:L.length<=1001:=by omega
   clear P5;have iS:=aV.size;have acA:kz w w1 u t o:=⟨ae A.own aV,A.be.trans (aV.mono cp)⟩
   go_loopw [4,5,8] (λov wv kv wr=>∃(k:Nat) (u:Option Addr) (t:Nat) (o:List (ByteArray×Nat)) (q:Int),k<=L.length/\kv=.int .i64 k/\ov=.slice u o.length t/\wv=.int .i64 q/\-1<=q/\kz w wr u t o/\Lib.OthersKept 264 none w1 wr/\o.length<=i*1001+k/\((L.map QA.a).drop k).foldl Ax.bS (o,q)=Y) (λ_ _ kv _=>L.length-(intOf kv).toNat)
   ·exact⟨0,u,t,o,q,IS _,rfl,rfl,rfl,M,acA,aeF _ _ _,by omega,HY.out⟩
   ·
    clear A acA jE M HY;obtain⟨k,u,t,o,q,hk,rfl,rfl,rfl,M,A,V,jE,hy⟩:=hrel;have D:=aj hy;clear hy;obtain⟨w2,rfl⟩:∃x,x=wr:=⟨_,rfl⟩;have lf:=A.be.size;by_cases ot:k<L.length
    ·have bC:=cI lz V;obtain⟨ag,had,H,hac,Iz⟩:=aA bC;subst had;obtain⟨x0,x1,x2,x3⟩:=jD L k ot;have x0:=Iz _ _ x0;have x1:=Iz _ _ x1;have x3:=Iz _ _ x3;have Fm:=Jy fY V (by decide) (by decide) _ (IN ot);have E:(L.map QA.a).drop k=(L[k]).a::(L.map QA.a).drop (k+1):=by
      rw[aan (by simpa using ot)];simp
     rw[E,aeD]at D;clear E Iz bC x2;generalize L[k]=x at*;rcases x with⟨y,yt,ytc,yv,yvc⟩;simp only at x0 x1 x3 D;have VV:=aH Fm.1;simp only at VV;clear Fm;obtain⟨N,hN⟩:∃N,Ax.ix y.pred o 0 (-1)=N:=⟨_,rfl⟩;have HN0:=aj hN;have Y4:=aj hN;clear hN;have aE:=A.own
     go_wp2_with fail
     go_loopw [9,10] (λnv jv w3=>∃(n:Int) (j:Nat),j<=o.length/\nv=.int .i64 n/\jv=.int .i64 j/\-1<=n/\n<=j/\Below w2.heap.size w2 w3/\Ax.ix y.pred (o.drop j) j n=N) (λ_ jv _=>o.length-(intOf jv).toNat)
     ·exact⟨-1,0,IS _,rfl,rfl,by omega,by omega,aaj _ _,HN0.out⟩
     ·
      obtain⟨n,j,hj,rfl,rfl,FX,hnj,B,X⟩:=hrel;have HX:=aj X;clear X HN0;have J:=ae aE B;have x03:=(B.cell (p:=⟨ag,k*4,none⟩) H).trans x0;have x13:=(B.cell (p:=⟨ag,k*4+1,none⟩) H).trans x1;have x33:=(B.cell (p:=⟨ag,k*4+3,none⟩) H).trans x3;have GS:=B.size;by_cases Et:j<o.length
      ·obtain⟨og,F,YW,hoc,Jv⟩:=aA J;subst F;have p0:=Jv _ _ (dY o j Et).1;have E:o.drop j=o[j]::o.drop (j+1):=aan Et;rw[E]at HX;clear E Jv;generalize o[j]=z at*;by_cases he:z.1=y.pred
       ·have hb:(z.1.toList==y.pred.toList)=true:=by rw[jB];simpa using he
        have O:Hid (Ax.ix y.pred (o.drop (j+1)) (j+1) j=N):=by
         have:=HX.out;rw[Ax.ix,aa3 he]at this;exact this
        clear he
        go_wp2_with fail
        go_region
        all_goals (go_wp2_with fail)
        all_goals go_roundw
        ·exact⟨j,j+1,by omega,rfl,by go_num,by omega,by omega,B.drew,O.out⟩
        ·simp[intOf];omega
       ·have hb:(z.1.toList==y.pred.toList)=false:=by rw[jB];simpa using he
        have O:Hid (Ax.ix y.pred (o.drop (j+1)) (j+1) n=N):=by
         have:=HX.out;rw[Ax.ix,aaD he]at this;exact this
        clear he
        go_wp2_with fail
        go_region
        all_goals (go_wp2_with fail)
        all_goals go_roundw
        ·exact⟨n,j+1,by omega,rfl,by go_num,by omega,by omega,B.drew,O.out⟩
        ·simp[intOf];omega
      ·have hNn:n=N:=by
        have:=HX.out;rw[abD (by omega)]at this;exact this
       subst hNn;clear HX;by_cases AZ:n<0
       ·have U:Hid (((L.map QA.a).drop (k+1)).foldl Ax.bS (o++[(y.pred,y.af.length)],q)=Y):=by
         have:=D.out;rw[Ax.bS,Y4.out,aa3 AZ]at this;exact this
        clear D Y4;obtain⟨i0,fC,cE,F3,Sl⟩:=abF Tryz.M0;have Hi0:=aj fC;have Hz0:=aj cE;have Z8:=aj F3;have Hy0:=aj Sl;clear fC cE F3 Sl
        go_wp2_with fail
        go_region_law (refine aed _ rfl (.tmp 48) (.tmp 61) 175 rfl w.heap.size 264 i0 _ 2 24 Tryz.underlying175 Hi0.out Hz0.out Z8.out Hy0.out rfl (by decide) (.slice u o.length t) o.length (cA o) (by simp[Act.eval,Act.put]) (by exact J.alloc _) ⟨wr.heap.size,0,none⟩ 1 1 [.string y.pred,.int .i64 y.af.length] (by simp[Act.eval,Act.put]) rfl (by exact dn _ _ _) (by simp[Value.oneCell']) (by decide) eI (by omega) (by simp;omega) (wr.heap.size+1) (by simp) ?_;intro g4 Gw w4 dL dv _ agr)
        all_goals (go_wp2_with fail)
        all_goals (go_roundw;(case rel=>exact K8 dL dv J A B lf V hk ot M jE U);(case measure=>simp[intOf];omega))
       ·obtain⟨m,hm,x,X,We⟩:∃m:Nat,n=m/\∃x,o[m]?=some x/\x.1=y.pred:=by
         rcases Ax.JY y.pred o with⟨e,_⟩ | ⟨m,e,hh⟩
         ·rw[Y4.out]at e;omega
         ·rw[Y4.out]at e;exact⟨m,e,hh⟩
        subst hm;obtain⟨RV,Y3⟩:=abt.1 X;obtain⟨og,F,YW,hoc,Jv⟩:=aA J;subst F;have p1:=Jv _ _ (dY o m RV).2;rw[Y3]at p1;clear Jv Y3;have W:Hid (Ax.bS (o,q) y=if q<0/\x.2≠y.af.length then (o,(y.at_:Int))else (o,q)):=by
         show Ax.bS (o,q) y=_;rw[Ax.bS,Y4.out,aaD AZ];simp[Ax.tu,X]
        clear X We Y4 AZ;generalize x.2=xn at*;by_cases hw:q<0
        ·have hwb:decide (q<0)=true:=by simpa using hw
         by_cases cB:xn=y.af.length
         ·have qt:(((xn:Nat):Int) != ((y.af.length:Nat):Int))=false:=by simp[cB]
          have U:Hid (((L.map QA.a).drop (k+1)).foldl Ax.bS (o,q)=Y):=by
           have:=D.out;rw[W.out,aaD (by simp[cB])]at this;exact this
          clear D W cB
          go_wp2_with fail
          go_region
          all_goals (go_wp2_with fail)
          all_goals (go_roundw;(case rel=>exact⟨k+1,some ⟨og,0,none⟩,t,o,q,by omega,by go_num,rfl,rfl,M,⟨J,(A.be.trans (B.mono lf)).drew⟩,V.trans (eH B.drew),by omega,U.out⟩);(case measure=>simp[intOf];omega))
         ·have qt:(((xn:Nat):Int) != ((y.af.length:Nat):Int))=true:=by simp;omega
          have U:Hid (((L.map QA.a).drop (k+1)).foldl Ax.bS (o,(y.at_:Int))=Y):=by
           have:=D.out;rw[W.out,aa3 ⟨hw,cB⟩]at this;exact this
          clear D W cB
          go_wp2_with fail
          go_region
          all_goals (go_wp2_with fail)
          all_goals (go_roundw;(case rel=>exact⟨k+1,some ⟨og,0,none⟩,t,o,_,by omega,by go_num,rfl,rfl,by omega,⟨J,(A.be.trans (B.mono lf)).drew⟩,V.trans (eH B.drew),by omega,U.out⟩);(case measure=>simp[intOf];omega))
        ·have hwb:decide (q<0)=false:=by simpa using hw
         have U:Hid (((L.map QA.a).drop (k+1)).foldl Ax.bS (o,q)=Y):=by
          have:=D.out;rw[W.out,aaD (by simp[hw])]at this;exact this
         clear D W
         go_wp2_with fail
         go_region
         all_goals (go_wp2_with fail)
         all_goals (go_roundw;(case rel=>exact⟨k+1,some ⟨og,0,none⟩,t,o,q,by omega,by go_num,rfl,rfl,M,⟨J,(A.be.trans (B.mono lf)).drew⟩,V.trans (eH B.drew),by omega,U.out⟩);(case measure=>simp[intOf];omega))
    ·have HE:Hid ((o,q)=Y):=by
      have:=D.out;rw[abD (by simp;omega)]at this;exact this
     go_wp2_with fail
     go_roundw
     ·exact⟨i+1,u,t,o,q,by omega,by go_num,rfl,rfl,M,A,by omega,by rw[HE.out];exact HR.out⟩
     ·simp[intOf];omega
  ·have HE:Hid ((o,q)=Z):=by
    have:=HR.out;rw[abD (by simp;omega)]at this;exact this
   go_wp2_with fail
   go_ret2
   exact⟨u,t,o,by rw[<-HE.out];rfl,by rw[<-HE.out];exact rfl,A⟩
variable{l:List FI}{B fc:Nat}{fd:Option Addr}{t:TypeId}{a b:Value}{w w':World}
theorem fu{P j rest o a}{Q:Exit->Act->World->Prop}(B:o.guard=none)(s x t)
 (F:o.op=.call {callee:=.builtin .append,args:=#[s,x],argTypes:=#[t,t]})
 (base e i z size bytes)(E:P.underlying t=some (.slice e))(H:P.info? e=some i)(U:i.zero=some z)
 (Y:i.size=size)(I:i.bytes=bytes)(M:z.cells.size=size)(cp:0<size)
 (v n xs)(hs:a.eval s=v)(y:w.ownsRow base e size v n xs)
 (b2 A m news)(D:a.eval x=A)(q:w.ownsRow b2 e size A m news)(W:∀u∈news,u.oneCell'=true)
 (J:n+m<=maxLen)(Z:(n+m)*bytes<=140737488355328)(X:base<=w.heap.size)
 (h:∀v' w',w'.ownsRow base e size v' (n+m) (xs++news)->w.grownBy w' v.ownBlock->wpList P j Q rest (a.put o.dst v') w'):wpList P j Q (o::rest) a w:=by
 rcases q.2 with⟨rfl,rfl⟩ | ⟨g,cap,cur,rfl,_⟩
 ·have V:news=[]:=abR (by rw[q.1];simp);subst V;exact ad3 B s x t F base e i size E H v n xs hs y D (h v w (by simpa using y) (gF))
 ·exact abp _ B s x t F base e i z size bytes E H U Y I M cp v n xs hs y ⟨g,0,none⟩ m cap news D q.1 (acw q (g:=g) rfl) W J Z X λv' w' O N _=>h v' w' O N
theorem bG(h:w.heap[B]?=some (.cells #[a,b] t (0,0))):w.cell? ⟨B,0,none⟩=some a/\w.cell? ⟨B,1,none⟩=some b/\w.frozen? ⟨B,0,none⟩=false/\w.frozen? ⟨B,1,none⟩=false/\B<w.heap.size:=by
 refine⟨?_, ?_,aJ h 0,aJ h 1,lt_of_heap h⟩<;>rw[aq h]<;>rfl
theorem iY(h:w.grownBy w' none):Below w.heap.size w w':=(aaj _ _).grown h (OF _) (λ_ h=>by cases h)
theorem Tryz.jC:(prog.info? 9).map (λi=>(i.zero,i.size,i.bytes))=some (some (.string ByteArray.empty),1,16):=by kernel_rfl
theorem ku(l):∀u∈strCells l,u.oneCell'=true:=by
 intro u e;obtain⟨x,_,rfl⟩:=aax.1 e;rfl
theorem vy{d n c a}(h:dr w (.slice d n c) a):∀j u,(strCells a)[j]?=some u->∃t,d=some t/\w.cell? (t.add j)=some u:=by
 intro j u i;have q:j<a.length:=by simpa [strCells]using(abt.1 i).1
 obtain⟨g,o,e,_,_,x⟩:=h.at q;rw[fy a j q,AT]at i;have y:(⟨g,o,none⟩:Addr).add j=⟨g,o+j,none⟩:=by unfold Addr.add;split<;>simp_all
 grind
theorem GL(w p a av)(O:dr w av a)(hl:a.length<=1048576):
 Calls prog 168 #[.agg #[.string p,av]] w λe w'=>∃bd bc,e=.returned (.agg #[.string p,.slice bd a.length bc])/\w'.ownsRow w.heap.size 9 1 (.slice bd a.length bc) a.length (strCells a)/\Below w.heap.size w w':=by
 obtain⟨x,fC,cE,ch,cz⟩:=abF Tryz.jC;have F:Hid (prog.info? 9=some x/\x.zero=some (.string ByteArray.empty)/\x.size=1/\x.bytes=16):=⟨fC,cE,ch,cz⟩;clear fC cE ch cz;obtain⟨ad,ac,rfl⟩:=O.shape;have HA:Hid (∀W,Below w.heap.size w W->∀j u,(strCells a)[j]?=some u->∃y,ad=some y/\W.cell? (y.add j)=some u):=λW hW=>vy (O.below hW);have nP:(strCells a).length=a.length:=by simp[strCells]
 have B:=ku a;clear O;generalize strCells a=X at*;generalize a.length=m at*
 go_enter func168,ntmps168
 have V:Below w.heap.size w ((w.alloc (.cells #[.string p,.slice ad m ac] 48)).alloc (.cells #[.string ⟨#[]⟩,.slice none 0 0] 48)):=aM.alloc (by simp) _;have Z:((w.alloc (.cells #[.string p,.slice ad m ac] 48)).alloc (.cells #[.string ⟨#[]⟩,.slice none 0 0] 48)).heap[w.heap.size]?=some (.cells #[.string p,.slice ad m ac] 48 (0,0)):=by
  rw[aay _ _ _ (by simp)];exact By w _
 have Y:((w.alloc (.cells #[.string p,.slice ad m ac] 48)).alloc (.cells #[.string ⟨#[]⟩,.slice none 0 0] 48)).heap[w.heap.size+1]?=some (.cells #[.string ⟨#[]⟩,.slice none 0 0] 48 (0,0)):=by
  have:=By (w.alloc (.cells #[.string p,.slice ad m ac] 48)) (.cells #[.string ⟨#[]⟩,.slice none 0 0] 48);simpa using this
 have HE:Hid (∀W,Below ((w.alloc (.cells #[.string p,.slice ad m ac] 48)).alloc (.cells #[.string ⟨#[]⟩,.slice none 0 0] 48)).heap.size ((w.alloc (.cells #[.string p,.slice ad m ac] 48)).alloc (.cells #[.string ⟨#[]⟩,.slice none 0 0] 48)) W->W.heap[w.heap.size]?=some (.cells #[.string p,.slice ad m ac] 48 (0,0))/\W.heap[w.heap.size+1]?=some (.cells #[.string ⟨#[]⟩,.slice none 0 0] 48 (0,0))/\Below w.heap.size w W):=λW h=>⟨by rw[h.block _ (lt_of_heap Z)];exact Z,by rw[h.block _ (lt_of_heap Y)];exact Y,V.trans (h.mono V.size)⟩;clear V Z Y;cases ad with
 | none=>
  have N:m=0:=by
   rcases Nat.eq_zero_or_pos m with i | i
   ·exact i
   ·obtain⟨y,e,_⟩:=HA.out w (aaj _ _) 0 _ (AS (by omega));cases e
  subst N;have U:X=[]:=abR nP;subst U;obtain⟨bd,bc,RO,yA⟩:∃(bd:Option Addr) (bc:Nat),bd=none/\bc=0:=⟨_,_,rfl,rfl⟩;obtain⟨w2,I⟩:∃w2,w2=(w.alloc (.cells #[.string p,.slice none 0 ac] 48)).alloc (.cells #[.string ⟨#[]⟩,.slice none 0 0] 48):=⟨_,rfl⟩;obtain⟨E,t,D⟩:=HE.out w2 (by rw[I];exact aaj _ _);obtain⟨c0,c1,_,_,rE⟩:=bG E;obtain⟨c2,c3,z2,z3,qB⟩:=bG t;have HO:Hid (w2.ownsRow w.heap.size 9 1 (.slice none 0 0) 0 []/\Below w.heap.size w w2/\w2.heap[w.heap.size+1]?=some (.cells #[.string ⟨#[]⟩,.slice none 0 0] 48 (0,0))):=⟨aaM _ _ _ _,D,t⟩;clear E t D
  go_upto_region 1 with fail
  rw[<-I];clear I HE
  go_wp2_with (at_builtin;refine ad3 rfl (.tmp 4) (.tmp 6) 46 rfl w.heap.size 9 x 1 ab2 F.out.1 (.slice none 0 0) 0 [] rfl (aaM _ _ _ _) rfl ?_)
  obtain⟨M,J,A⟩:=HO.out;have i:=heap_setCell_same (off:=0) A (.string p);have B:=heap_setCell_same (off:=1) i (Value.slice none 0 0);refine aaT (v:=.agg #[.string p,Value.slice none 0 0]) (by simp[results,Tryz.results168,go_sem,aq B]) rfl ⟨none,0,rfl, ?_, ?_⟩
  ·refine aB (aB M (grownBy_setCell ⟨w.heap.size+1,0,none⟩ _) (λk q=>by cases q;exact⟨_,_,A⟩)) (grownBy_setCell ⟨w.heap.size+1,1,none⟩ _) (λk q=>by cases q;exact⟨_,_,i⟩)
  ·exact(J.setCell (p:=⟨w.heap.size+1,0,none⟩) (by simp) _).setCell (p:=⟨w.heap.size+1,1,none⟩) (by simp) _
 | some y=>
  go_wp2_with (at_builtin;refine abp _ rfl (.tmp 4) (.tmp 6) 46 rfl w.heap.size 9 x _ 1 16 ab2 F.out.1 F.out.2.1 F.out.2.2.1 F.out.2.2.2 rfl (by decide) (.slice none 0 0) 0 [] rfl (aaM _ _ _ _) y m ac X rfl (by rw[Nat.mul_one];exact nP) (λj u hu=>by obtain⟨adS,e,h9⟩:=HA.out ((w.alloc (.cells #[.string p,.slice (some y) m ac] 48)).alloc (.cells #[.string ⟨#[]⟩,.slice none 0 0] 48)) (aM.alloc (by simp) _) j u hu;cases e;exact h9) B eI (by omega) (by simp;omega) ?_;intro v2 w2 H bT _;obtain⟨bd,bc,rfl⟩:=ah H;rw[acm,acp]at H;rw[acm];have Zs:=iY bT;obtain⟨E,t,D⟩:=HE.out w2 Zs;obtain⟨c0,c1,_,_,rE⟩:=bG E;obtain⟨c2,c3,z2,z3,qB⟩:=bG t;have HO:Hid (w2.ownsRow w.heap.size 9 1 (.slice bd m bc) m X/\Below w.heap.size w w2/\w2.heap[w.heap.size+1]?=some (.cells #[.string ⟨#[]⟩,.slice none 0 0] 48 (0,0))):=⟨H,D,t⟩;clear H E t D Zs;clear bT)
  obtain⟨M,J,A⟩:=HO.out;have i:=heap_setCell_same (off:=0) A (.string p);have B:=heap_setCell_same (off:=1) i (.slice bd m bc);refine aaT (v:=.agg #[.string p,.slice bd m bc]) (by simp[results,Tryz.results168,go_sem,aq B]) rfl ⟨bd,bc,rfl, ?_, ?_⟩
  ·refine aB (aB M (grownBy_setCell ⟨w.heap.size+1,0,none⟩ _) (λk q=>by cases q;exact⟨_,_,A⟩)) (grownBy_setCell ⟨w.heap.size+1,1,none⟩ _) (λk q=>by cases q;exact⟨_,_,i⟩)
  ·exact(J.setCell (p:=⟨w.heap.size+1,0,none⟩) (by simp) _).setCell (p:=⟨w.heap.size+1,1,none⟩) (by simp) _
theorem JQ(w){p a av}(j:w.ownsRow 0 9 1 av a.length (strCells a))(i:a.length<=1048576):
 Calls prog 168 #[.agg #[.string p,av]] w λe w'=>∃bd bc,e=.returned (.agg #[.string p,.slice bd a.length bc])/\w'.ownsRow w.heap.size 9 1 (.slice bd a.length bc) a.length (strCells a)/\Below w.heap.size w w':=GL w p a av (xh j) i
theorem CU{W c d e}(h:Below (w.alloc (.cells #[a,b,c,d,e] t)).heap.size (w.alloc (.cells #[a,b,c,d,e] t)) W):Below w.heap.size w W/\w.heap.size<W.heap.size/\W.cell? ⟨w.heap.size,0,none⟩=some a/\W.cell? ⟨w.heap.size,1,none⟩=some b/\W.cell? ⟨w.heap.size,2,none⟩=some c/\W.cell? ⟨w.heap.size,3,none⟩=some d/\W.cell? ⟨w.heap.size,4,none⟩=some e:=by
 have i:Below w.heap.size w (w.alloc (.cells #[a,b,c,d,e] t)):=aM;have j:W.heap[w.heap.size]?=some (.cells #[a,b,c,d,e] t (0,0)):=by
  rw[h.block _ (by simp)];exact By w _
 refine⟨i.trans (h.mono i.size),lt_of_heap j, ?_, ?_, ?_, ?_, ?_⟩<;>rw[aq j]<;>rfl
theorem P8(w:World)(r:QR)(hr:r.ok w)(ps){pv:Value}(N:w.ownsRow 0 9 1 pv ps.length (strCells ps)):
 Calls prog 210 #[.agg #[.string r.head.a.pred,.slice r.head.td r.head.a.af.length r.head.tc,.slice r.head.vd r.head.a.af.length r.head.vc,.int .i64 r.head.a.at_,.slice r.bd r.body.length r.bc],pv] w λe w'=>e=.returned (.bool (r.body.any λx=>Tb.eZ ps x.a.pred))/\Below w.heap.size w w':=by
 rcases r with⟨⟨a,td,tc,vd,vc⟩,bd,bc,body⟩;obtain⟨_,U,_⟩:=hr;simp only at U ⊢;obtain⟨pd,pc,rfl⟩:=ah N;have HP:=aj N;have HB:=aj U;have hlp:=aH N;have hlb:=aH U;generalize hR:(body.any λx=>Tb.eZ ps x.a.pred)=R;clear N U
 go_enter func210,ntmps210
 go_wp2_with fail
 obtain⟨w1,Z⟩:∃w1,w1=w.alloc (.cells #[.string a.pred,.slice td a.af.length tc,.slice vd a.af.length vc,.int .i64 a.at_,.slice bd body.length bc] 280):=⟨_,rfl⟩;rw[<-Z];have J:Hid (∀W,Below w1.heap.size w1 W->Below w.heap.size w W/\w.heap.size<W.heap.size/\W.cell? ⟨w.heap.size,4,none⟩=some (.slice bd body.length bc)):=by
  intro W h;rw[Z]at h;obtain⟨F,D,_,_,_,_,h3⟩:=CU h;exact⟨F,D,h3⟩
 clear Z
 go_loopw [5] (λi wr=>∃k:Nat,k<=body.length/\i=.int .i64 k/\Hid (((body.drop k).any λx=>Tb.eZ ps x.a.pred)=R)/\Below w1.heap.size w1 wr) (λi _=>body.length-(intOf i).toNat)
 ·exact⟨0,IS _,rfl,hR,aaj _ _⟩
 ·
  obtain⟨k,hk,rfl,H,u⟩:=hrel;clear hR;obtain⟨A,aL,x4⟩:=J.out wr u;have M:=aj u;by_cases F:k<body.length
  ·have gD:decide ((k:Int)<body.length)=true:=aap (by omega);have V:Hid ((Tb.eZ ps (body[k]).a.pred=true->R=true)/\(Tb.eZ ps (body[k]).a.pred=false->((body.drop (k+1)).any λx=>Tb.eZ ps x.a.pred)=R)):=by
    have t:=H.out;rw[aan F,aeJ]at t;refine⟨λe=>?_,λe=>?_⟩
    ·rw[e,Bool.true_or]at t;exact t.symm
    ·rw[e,aeT]at t;exact t
   obtain⟨bg,rfl,K7,yA,Fo⟩:=aA (ae HB.out A);have HC:Hid (∀W,Below w1.heap.size w1 W->bg<W.heap.size/\W.cell? ⟨bg,k*4,none⟩=some (.string (body[k]).a.pred)):=by
    intro W hW;obtain⟨bg',e,q1,_,q2⟩:=aA (ae HB.out (J.out W hW).1);simp only[AT,aco,aex]at e;subst e;exact⟨q1,q2 _ _ (jD body k F).1⟩
   generalize hp9:(body[k]).a.pred=E at*;clear Fo A u K7 H
   go_wp2_with fail
   go_loopw [6] (λj wq=>∃m:Nat,m<=ps.length/\j=.int .i64 m/\Hid (¬E∈ps.take m)/\Below w1.heap.size w1 wq) (λj _=>ps.length-(intOf j).toNat)
   ·exact⟨0,IS _,rfl,λh=>by simp at h,M.out⟩
   ·
    obtain⟨m,hm,rfl,X,u⟩:=hrel;clear x4 aL M;obtain⟨A,aL,x4⟩:=J.out wr u;obtain⟨K7,y0⟩:=HC.out wr u;have lF:Hid (∀q,Below w.heap.size w (wr.drewN q)):=λq=>A.trans ⟨rfl,rfl,rfl,OF _,λ_ _=>rfl⟩;have M:Hid (∀q,Below w1.heap.size w1 (wr.drewN q)):=λq=>u.trans ⟨rfl,rfl,rfl,OF _,λ_ _=>rfl⟩;by_cases D:m<ps.length
    ·have ib:decide ((m:Int)<ps.length)=true:=aap (by omega);obtain⟨pg,rfl,hpg,hpc,I⟩:=aA (ae HP.out A);have c1:=I _ _ (fy ps m D);have i1:(0:Int)<=(m:Int):=by omega
     have i2:(m:Int)<ps.length:=by omega
     have i3:(0:Int)<=(k:Int):=by omega
     have i4:(k:Int)<body.length:=by omega
     have NH:Hid ((ps[m]=E->R=true)/\(¬ps[m]=E->¬E∈ps.take (m+1))):=by
      refine⟨λe=>V.out.1 (Tb.bt.2 (e▸IN D)),λe B=>?_⟩;rw[aaZ,AS D]at B;rcases ZD.1 B with B | B
      ·exact X.out B
      ·simp at B;exact e B.symm
     clear I A u HC J V X;generalize ps[m]=y at*;by_cases O:y=E
     ·have Z1:=NH.out.1 O;subst O;subst Z1
      go_upto_region 7 with fail
      go_quiet (fail)
      go_wp2_with fail
      all_goals
       (go_ret
        exact⟨rfl,lF.out _⟩)
     ·have hq:(y.toList==E.toList)=false:=by
       rw[ab1];exact λe=>O (Tb.toList_inj e)
      have Y:=NH.out.2 O
      go_upto_region 7 with fail
      go_quiet (fail)
      go_wp2_with fail
      all_goals
       (go_roundw
        ·exact⟨m+1,D,by go_num,Y,M.out _⟩
        ·(simp[intOf];omega))
    ·have ib:decide ((m:Int)<ps.length)=false:=aab (by omega);have Y:Hid (((body.drop (k+1)).any λx=>Tb.eZ ps x.a.pred)=R):=by
      refine V.out.2 ?_;rw[acZ];intro e;have t:=X.out;rw[aaP (by omega)]at t;exact t (Tb.bt.1 e)
     clear A HC J V X
     go_wp2_with fail
     go_roundw
     ·exact⟨k+1,F,by go_num,Y,u⟩
     ·(simp[intOf];omega)
  ·have gD:decide ((k:Int)<body.length)=false:=aab (by omega);have HRF:Hid (R=false):=by
    have t:=H.out;rw[abG (by omega)]at t;exact t.symm
   clear u H
   go_wp2_with fail
   go_ret;exact⟨by rw[HRF.out];rfl,A⟩
def yi:List (ByteArray×Nat)->ByteArray->Int
 | [],_=>-1
 | p::o,x=>if p.1=x then (p.2:Nat)else yi o x
theorem sJ{W c}(h:Below (w.alloc (.cells #[a,b,c] t)).heap.size (w.alloc (.cells #[a,b,c] t)) W):Below w.heap.size w W/\w.heap.size<W.heap.size/\W.cell? ⟨w.heap.size,0,none⟩=some a/\W.cell? ⟨w.heap.size,1,none⟩=some b/\W.cell? ⟨w.heap.size,2,none⟩=some c:=by
 have e:Below w.heap.size w (w.alloc (.cells #[a,b,c] t)):=aM;have i:W.heap[w.heap.size]?=some (.cells #[a,b,c] t (0,0)):=by
  rw[h.block _ (by simp)];exact By w _
 refine⟨e.trans (h.mono e.size),lt_of_heap i, ?_, ?_, ?_⟩<;>rw[aq i]<;>rfl
theorem uL(w rd D rc t u o)(E:w.ownsRow 0 264 2 (.slice t o.length u) o.length (cA o))(pl x):
 Calls prog 170 #[.agg #[.slice rd D rc,.slice t o.length u,.string pl],.string x] w λe w'=>e=.returned (.int .i64 (yi o x))/\w'=w.alloc (.cells #[.slice rd D rc,.slice t o.length u,.string pl] 177):=by
 have HO:=aj E;have SS:=aH E;generalize M:yi o x=R;clear E
 go_enter func170,ntmps170
 go_wp2_with fail
 obtain⟨w1,A⟩:∃w1,w1=w.alloc (.cells #[.slice rd D rc,.slice t o.length u,.string pl] 177):=⟨_,rfl⟩;rw[<-A];have Z:Hid (Below w.heap.size w w1/\w.heap.size<w1.heap.size/\w1.cell? ⟨w.heap.size,1,none⟩=some (.slice t o.length u)):=by
  have h:=aaj w1.heap.size w1;rw[A]at h;obtain⟨q,W,_,V,_⟩:=sJ h;rw[A];exact⟨q,W,V⟩
 have O:=aj A;clear A
 go_loopw [5] (λi wr=>∃k:Nat,k<=o.length/\i=.int .i64 k/\Hid (yi (o.drop k) x=R)/\wr=w1) (λi _=>o.length-(intOf i).toNat)
 ·exact⟨0,IS _,rfl,M,rfl⟩
 ·
  obtain⟨k,hk,rfl,H,rfl⟩:=hrel;clear M;obtain⟨I,aL,x4⟩:=Z.out;by_cases q:k<o.length
  ·have X:decide ((k:Int)<o.length)=true:=aap (by omega);obtain⟨g,rfl,hg,hc,F⟩:=aA (ae HO.out I);have c0:=F _ _ (dY o k q).1;have c1:=F _ _ (dY o k q).2;have i1:(0:Int)<=(k:Int):=by omega
   have i2:(k:Int)<o.length:=by omega
   have N:Hid ((o[k].1=x->R=(o[k].2:Nat))/\(¬o[k].1=x->yi (o.drop (k+1)) x=R)):=by
    have j:=H.out;rw[aan q]at j;unfold yi at j;refine⟨λe=>?_,λe=>?_⟩
    ·rw[aa3 e]at j;exact j.symm
    ·rw[aaD e]at j;exact j
   clear F I H;generalize (o[k]).1=y at*;generalize (o[k]).2=n at*;by_cases B:y=x
   ·have Y:=N.out.1 B;subst B;subst Y
    go_wp2_with fail
    all_goals
     (go_ret
      exact⟨rfl,O.out⟩)
   ·have hq:(y.toList==x.toList)=false:=by
     rw[ab1];exact λe=>B (Tb.toList_inj e)
    have U:=N.out.2 B
    go_wp2_with fail
    all_goals
     (go_roundw
      ·exact⟨k+1,q,by go_num,U,trivial⟩
      ·(simp[intOf];omega))
  ·have X:decide ((k:Int)<o.length)=false:=aab (by omega);have J:Hid (R=-1):=by
    have j:=H.out;rw[abG (by omega)]at j;exact j.symm
   clear H I
   go_wp2_with fail
   go_ret;exact⟨by rw[J.out];rfl,O.out⟩
/- axiomref: heads, where a rule's body has been gone through. -/
structure bl(w:World)(B:Nat)(fd:Option Addr)(fc:Nat)(l:List FI):Prop where
 row:w.ownsRow B 48 2 (.slice fd l.length fc) l.length (ax l)
 each:∀f,f∈l->w.ownsRow B 9 1 f.av f.args.length (strCells f.args)
theorem bl.below(h:bl w B fd fc l)(e:Below w.heap.size w w'):bl w' B fd fc l:=⟨ae h.row e,λf i=>ae (h.each f i) e⟩
theorem bl.base{i}(h:bl w B fd fc l)(e:i<=B):bl w i fd fc l:=⟨aD h.row e,λf j=>aD (h.each f j) e⟩
theorem bl.KM(h:bl w B fd fc l):bJ w fd fc l:=⟨aD h.row (IS _),λf e=>aD (h.each f e) (IS _)⟩
theorem bl.nil(w B):bl w B none 0 []:=⟨aaM _ _ _ _,λ_ h=>by cases h⟩
theorem bl.app{q j m}(h:bl w B fd fc l)(hm:∀f,f∈m->w.ownsRow B 9 1 f.av f.args.length (strCells f.args))(u:w.grownBy w' (Value.slice fd l.length fc).ownBlock)(t:w'.ownsRow B 48 2 (.slice q (l.length+m.length) j) (l.length+m.length) (ax l++ax m)):bl w' B q j (l++m):=by
 refine⟨?_, ?_⟩
 ·rw[If];have e:ax (l++m)=ax l++ax m:=by simp[ax]
  rw[e];exact t
 ·intro f i;have x:w.ownsRow B 9 1 f.av f.args.length (strCells f.args):=by
   rcases ZD.1 i with i | i
   ·exact h.each f i
   ·exact hm f i
  exact aB x u (au h.row)
theorem vx(h:bl w B fd fc l):∀u∈ax l,u.oneCell'=true:=by
 intro u i;obtain⟨f,j,i⟩:=aa9.1 i;simp only[BY,acC,aeH]at i;rcases i with rfl | rfl
 ·rfl
 ·obtain⟨d,c,e⟩:=ah (h.each f j);rw[e];rfl
theorem Tryz.kI:(prog.info? 48).map (λi=>(i.zero,i.size,i.bytes))=some (some (.agg #[.string ByteArray.empty,.slice none 0 0]),2,40):=by kernel_rfl
def Bt(w:World)(R:List En.ba)(e:Ending)(w':World):Prop:=∃hd hc out,e=.returned (.slice hd (List.length out) hc)/\bl w' w.heap.size hd hc out/\out.map FI.f=R/\Below w.heap.size w w'
theorem Fz(b){t}(h:t.kind=0\/t.kind=1):(if isVar t then En.val b t.text else t.text)=En.dS (En.val b) t:=by
 unfold isVar En.dS;rcases h with h | h<;>rw[h]<;>simp
structure Wd(w:World)(B X:Nat)(p:ByteArray)(xd:Option Addr)(xc:Nat)(ll:List ByteArray)(wr:World):Prop where
 aY:wr.heap[X]?=some (.cells #[.string p,.slice xd ll.length xc] 48 (0,0))
 own:wr.ownsRow B 9 1 (.slice xd ll.length xc) ll.length (strCells ll)
 be:Below B w wr
theorem Wd.step{X p j xd' q xc' i wr w2 o x}(h:Wd w B X p j q i wr)(H:B<=wr.heap.size)(F:B<=X)(A:(wr.alloc o).grownBy w2 (Value.slice j i.length q).ownBlock)(E:w2.ownsRow B 9 1 (.slice xd' (i.length+1) xc') (i.length+1) (strCells i++[.string x])):
 w2.heap[X]?=some (.cells #[.string p,.slice j i.length q] 48 (0,0))/\Wd w B X p xd' xc' (i++[x]) (w2.setCell ⟨X,1,none⟩ (.slice xd' (i.length+1) xc')):=by
 have u:=lt_of_heap h.aY;have y:w2.heap[X]?=some (.cells #[.string p,.slice j i.length q] 48 (0,0)):=by
  rw[A.block _ (by simp;omega) ?_,aay _ _ _ u,h.aY]
  ·intro e;obtain⟨I,fz,D⟩:=au h.own X e.symm;rw[h.aY]at D;simp at D
 have e3:=heap_setCell_same (off:=1) y (.slice xd' (i.length+1) xc');refine⟨y, ?_, ?_, ?_⟩
 ·rw[e3];simp
 ·have:=aB E (grownBy_setCell ⟨X,1,none⟩ (.slice xd' (i.length+1) xc')) (λk t=>by cases t;exact⟨_,_,y⟩) (by decide:(9:TypeId)≠48);simpa [strCells]using this
 ·exact(((h.be.alloc H _).grown A (by simp;omega) (λk t=>(h.own.lt k t).1))).setCell (p:=⟨X,1,none⟩) F _
theorem Nu(w)(r:QR)(hr:r.ok w)(O:∀t,t∈r.head.a.af->t.kind=0\/t.kind=1)(Xz:r.head.a.af.length<=1000)(eB:r.body.length<=1000){lv}(b:En.Bind)(M N)(hv:w.ownsRow 0 9 1 M b.length (strCells (b.map Prod.fst)))(hn:w.ownsRow 0 9 1 N b.length (strCells (b.map Prod.snd)))(F:Int):
 Calls prog 154 #[.agg #[.string r.head.a.pred,.slice r.head.td r.head.a.af.length r.head.tc,.slice r.head.vd r.head.a.af.length r.head.vc,.int .i64 r.head.a.at_,.slice r.bd r.body.length r.bc],.int .i64 (r.body.length:Nat),lv,M,N,.int .i64 F] w λe w'=>Bt w [(r.head.a.pred,r.head.a.af.map (En.dS (En.val b)))] e w':=by
 rcases r with⟨⟨a,td,tc,vd,vc⟩,bd,bc,body⟩;obtain⟨⟨ht,y⟩,_,_⟩:=hr;simp only at ht y O Xz eB ⊢;obtain⟨I,fC,cE,ch,cz⟩:=abF Tryz.jC;have V:Hid (prog.info? 9=some I/\I.zero=some (.string ByteArray.empty)/\I.size=1/\I.bytes=16):=⟨fC,cE,ch,cz⟩;clear fC cE ch cz;have HV:Hid (∀W t v,Below w.heap.size w W->Calls prog 213 #[.string t,.bool v,M,N] W λe w'=>e=.returned (.tuple #[.string (if v then En.val b t else t),.bool (!v||b.any λp=>decide (p.1=t))])/\w'=W):=λW t v h=>BM W t v b M N (ae hv h) (ae hn h);obtain⟨X,Y,rfl⟩:=ah hv;obtain⟨Z,nvc,rfl⟩:=ah hn;have HT:=aj ht;have HVR:=aj y;have HK:=aj O;clear hv hn ht y O
 go_enter func154,ntmps154
 go_wp2_with fail
 obtain⟨w1,U⟩:∃w1,w1=w.alloc (.cells #[.string a.pred,.slice td a.af.length tc,.slice vd a.af.length vc,.int .i64 a.at_,.slice bd body.length bc] 280):=⟨_,rfl⟩;rw[<-U];have iS:w1.heap.size=w.heap.size+1:=by rw[U];simp
 have HX:Hid (∀W,Below w1.heap.size w1 W->Below w.heap.size w W/\w.heap.size<W.heap.size/\W.cell? ⟨w.heap.size,0,none⟩=some (.string a.pred)/\W.cell? ⟨w.heap.size,1,none⟩=some (.slice td a.af.length tc)/\W.cell? ⟨w.heap.size,2,none⟩=some (.slice vd a.af.length vc)):=by
  intro W h;rw[U]at h;obtain⟨B,h2,h3,h4,h5,_,_⟩:=CU h;exact⟨B,h2,h3,h4,h5⟩
 have H0:Hid (Wd w1 w1.heap.size (w.heap.size+1) a.pred none 0 [] (w1.alloc (.cells #[.string a.pred,.slice none 0 0] 48))):=by
  refine⟨?_,aaM _ _ _ _,aM⟩;rw[<-iS];exact By w1 _
 have apW:=aH HT.out;clear U
 go_loopw [14] (λi wr=>∃(k:Nat) (j:Option Addr) (q:Nat),k<=a.af.length/\i=.int .i64 k/\Hid (Wd w1 w1.heap.size (w.heap.size+1) a.pred j q ((a.af.take k).map (En.dS (En.val b))) wr)) (λi _=>a.af.length-(intOf i).toNat)
 ·exact⟨0,none,0,IS _,rfl,H0.out⟩
 ·
  obtain⟨k,j,q,O,rfl,H⟩:=hrel;clear H0;have cp:=H.out.be.size;obtain⟨E,aL,x0,x1,x2⟩:=HX.out wr H.out.be;have hlen:((a.af.take k).map (En.dS (En.val b))).length=k:=by simp;omega
  have hblk:=H.out.aY;rw[hlen]at hblk;obtain⟨y0,y1,z0,z1,qB⟩:=bG hblk;by_cases B:k<a.af.length
  ·have gD:decide ((k:Int)<a.af.length)=true:=aap (by omega);obtain⟨tg,rfl,lJ,Sz,Pb⟩:=aA (ae HT.out E);obtain⟨vg,rfl,Ww,Zy,Oo⟩:=aA (ae HVR.out E);have c1:=Pb k (.string (a.af[k]).text) (by simp[strCells,B]);have c2:=Oo k (.bool (isVar a.af[k])) (by simp[dm,B]);have i1:(0:Int)<=(k:Int):=by omega
   have i2:(k:Int)<a.af.length:=by omega
   have HC:Hid (∀n,Calls prog 213 #[.string (a.af[k]).text,.bool (isVar a.af[k]),.slice X b.length Y,.slice Z b.length nvc] (wr.drewN n) λe w'=>e=.returned (.tuple #[.string (En.dS (En.val b) a.af[k]),.bool (!isVar a.af[k]||b.any λp=>decide (p.1=(a.af[k]).text))])/\w'=wr.drewN n):=by
    intro n;have:=HV.out (wr.drewN n) (a.af[k]).text (isVar a.af[k]) (below_drewN E n);rw[Fz b (HK.out _ (IN B))]at this;exact this
   have HE:Hid ((a.af.take (k+1)).map (En.dS (En.val b))=(a.af.take k).map (En.dS (En.val b))++[En.dS (En.val b) a.af[k]]):=by
    show _=_;rw[aaZ,AS B,aa6];rfl
   generalize (!isVar a.af[k]||b.any λp=>decide (p.1=(a.af[k]).text))=ub at*;generalize En.dS (En.val b) a.af[k]=x at*;generalize (a.af[k]).text=tx at*;generalize isVar a.af[k]=tv at*;generalize aad:(a.af.take k).map (En.dS (En.val b))=D at*;have u:=H.out.own;rw[hlen]at u;have J:=aj u;have HLN:=aj hlen;clear Pb Oo E u hlen aad hblk
   go_upto_region 6 with fail
   go_quiet (first | (go_at_call 213;exact Calls.quiet_of_same (HC.out _)))
   have jX:Hid (∀w2 xd' xc',((wr.drewN nq).alloc (.cells #[.string x] 9)).grownBy w2 (Value.slice j k q).ownBlock->w2.ownsRow w1.heap.size 9 1 (.slice xd' (k+1) xc') (k+1) (strCells D++[.string x])->w2.heap[w.heap.size+1]?=some (.cells #[.string a.pred,.slice j k q] 48 (0,0))/\Hid (Wd w1 w1.heap.size (w.heap.size+1) a.pred xd' xc' (D++[x]) (w2.setCell ⟨w.heap.size+1,1,none⟩ (.slice xd' (k+1) xc')))):=by
    intro w2 xd' xc' hg ho;have H6:Wd w1 w1.heap.size (w.heap.size+1) a.pred j q D (wr.drewN nq):=⟨H.out.aY,H.out.own,below_drewN H.out.be nq⟩;have Sn:D.length=k:=HLN.out;have A:=H6.step (w2:=w2) (xd':=xd') (xc':=xc') (x:=x) (by exact cp) (by omega) (by rw[Sn];exact hg) (by rw[Sn];exact ho);rw[Sn]at A;exact A
   have d1:(wr.drewN nq).cell? ⟨w.heap.size+1,1,none⟩=some (.slice j k q):=y1;have dl:w.heap.size+1<(wr.drewN nq).heap.size:=qB;have HO6:Hid ((wr.drewN nq).ownsRow w1.heap.size 9 1 (.slice j k q) k (strCells D)):=J.out;have Wt:w1.heap.size<=(wr.drewN nq).heap.size:=cp;generalize wr.drewN nq=w6 at*;clear c1 c2 y0 y1 z0 z1 x0 x1 x2 HC H J qB cp
   go_wp2_with (at_builtin;refine abp _ rfl (.tmp 63) (.tmp 65) 46 rfl w1.heap.size 9 I _ 1 16 ab2 V.out.1 V.out.2.1 V.out.2.2.1 V.out.2.2.2 rfl (by decide) (.slice j k q) k (strCells D) rfl (HO6.out.alloc _) ⟨w6.heap.size,0,none⟩ 1 1 [.string x] rfl rfl (dn _ _ _) (by simp[Value.oneCell']) eI (by omega) (by simp;omega) ?_;intro v2 w2 aO bq _;obtain⟨xd',xc',rfl⟩:=ah aO;obtain⟨e2,H2⟩:=jX.out w2 xd' xc' bq aO;obtain⟨d0,d2,f0,f1,Xz⟩:=bG e2;clear aO bq e2)
   go_roundw
   ·exact⟨k+1,xd',xc',B,by go_num,by rw[HE.out];exact H2⟩
   ·(simp[intOf];omega)
  ·have gD:decide ((k:Int)<a.af.length)=false:=aab (by omega);have u:Hid (wr.ownsRow w1.heap.size 9 1 (.slice j k q) k (strCells (a.af.map (En.dS (En.val b))))/\Below w.heap.size w wr):=by
    have A:=H.out.own;rw[hlen,aaP (by omega)]at A;exact⟨A,E⟩
   have Hj:a.af.length=k:=by omega
   have R1:Hid ((a.af.map (En.dS (En.val b))).length=k):=by
    show _=_;rw[aaL,Hj]
   clear E hblk hlen H
   go_wp2_with fail
   go_ret;refine⟨some ⟨wr.heap.size,0,none⟩,1,[⟨a.pred,a.af.map (En.dS (En.val b)),.slice j k q⟩],rfl,⟨?_, ?_⟩,rfl, ?_⟩
   ·have A:=ownsRow_lit (w:=wr) (b:=w.heap.size) (e:=48) (xs:=[.string a.pred,.slice j k q]) (size:=2) rfl u.out.2.size;exact A
   ·intro f hf;simp only[BY,acC,aeH]at hf;subst hf;simp only;rw[R1.out];exact aD (u.out.1.alloc _) (by omega)
   ·exact u.out.2.alloc u.out.2.size _
/- The reference's way as plain functions: the heads of a rule's instances; what follows, round by round. No program here. -/
namespace Rf
open En
def pf(f:ba):ba:=(f.1,pad f.2)
def fI(hd:Ax.Atom)(l:List ba):List Ax.Atom->Bind->List ba
 | [],b=>[(hd.pred,hd.af.map (dS (val b)))]
 | a::az,b=>l.flatMap λf=>match bO a f b with
  | some b'=>fI hd l az b'
  | none=>[]
def Yx{F:Type}(L:List F):Nat->List (List F)
 | 0=>[[]]
 | k+1=>L.flatMap λx=>(Yx L k).map (x::·)
theorem zO{α β:Type}(f:α->β):∀l:List α,(l.flatMap λx=>[f x])=l.map f
 | []=>rfl
 | a::l=>by rw[aaW,zO f l];rfl
theorem Sv{F k}(i:k<=2)(L:List F):Yx L k=iQ k L:=by
 have:k=0\/k=1\/k=2:=by omega
 rcases this with rfl | rfl | rfl
 ·rfl
 ·exact zO _ L
 ·have e:Yx L 1=L.map λx=>[x]:=zO _ L;show(L.flatMap λx=>(Yx L 1).map (x::·))=_;rw[e];simp[iQ,Function.comp_def]
theorem xM:∀(i:List Ax.Term) (ns e:List ByteArray) (b:Bind),ns.length=i.length->bP i (ns++e) b=bP i ns b
 | [],_,_,_,_=>by simp[bP]
 | _::_,[],_,_,h=>by simp at h
 | t::i,n::ns,e,b,h=>by
  have ih:=λb=>xM i ns e b (by simpa using h);simp only[aeK,bP,ih]
def Fit(a:Ax.Atom)(f:ba):Prop:=a.pred=f.1->f.2.length=a.af.length
theorem BJ{a}{f:ba}(b:Bind)(h:Fit a f):bO a (pf f) b=bO a f b:=by
 unfold bO pf pad;simp only;by_cases e:a.pred=f.1
 ·rw[aa3 e,aa3 e,xM _ _ _ _ (h e)]
 ·rw[aaD e,aaD e]
theorem K2(hd l):∀(i:List Ax.Atom) (b:Bind),(∀a,a∈i->∀f,f∈l->Fit a f)->(fI hd l i b).map pf=(Yx (l.map pf) i.length).filterMap λfs=>(ly i fs b).map λb=>iG (val b) hd
 | [],b,_=>by simp[fI,Yx,ly,pf,iG]
 | a::i,b,j=>by
  have key:∀m:List ba,(∀f,f∈m->f∈l)->(m.flatMap λf=>match bO a f b with | some b'=>fI hd l i b' | none=>[]).map pf=((m.map pf).flatMap λx=>(Yx (l.map pf) i.length).map (x::·)).filterMap λfs=>(ly (a::i) fs b).map λb=>iG (val b) hd:=by
   intro m hm
   induction m with
   | nil=>rfl
   | cons f m ih=>
    rw[aaW,aa6,ih (λg t=>hm g (by simp[t])),abn,aaW,List.filterMap_append];congr 1;have q:=BJ b (j a (by simp) f (hm f (by simp)));rw[List.filterMap_map];cases e:bO a f b with
    | none=>
     have:((λfs=>(ly (a::i) fs b).map λb=>iG (val b) hd)∘λx=>pf f::x)=λ_=>none:=by
      funext fs;simp[ly,q,e]
     rw[this];simp
    | some b'=>
     have:((λfs=>(ly (a::i) fs b).map λb=>iG (val b) hd)∘λx=>pf f::x)=λfs=>(ly i fs b').map λb=>iG (val b) hd:=by
      funext fs;simp[ly,q,e]
     rw[this];exact K2 hd l i b' (λc u=>j c (by simp[u]))
  exact key l (λ_ h=>h)
theorem ON{r}(i:r.body.length<=2){l}(e:∀a,a∈r.body->∀f,f∈l->Fit a f):(fI r.head l r.body []).map pf=(iQ r.body.length (l.map pf)).filterMap (Fp r):=by
 rw[K2 _ _ _ _ e,Sv i];rfl
theorem FG(hd A t):∀(i:List Ax.Atom) (b:Bind),(∀a,a∈i->∀f,f∈t->a.pred≠f.1)->fI hd (A++t) i b=fI hd A i b
 | [],_,_=>rfl
 | a::i,b,h=>by
  have ih:=λb=>FG hd A t i b (λc u=>h c (by simp[u]));have w:∀m:List ba,(∀f,f∈m->f∈t)->(m.flatMap λf=>match bO a f b with | some b'=>fI hd A i b' | none=>[])=[]:=by
   intro m hm
   induction m with
   | nil=>rfl
   | cons f m j=>
    have e:bO a f b=none:=by
     unfold bO;rw[aaD (h a (by simp) f (hm f (by simp)))]
    rw[aaW,j (λg q=>hm g (by simp[q])),e];rfl
  simp only[fI,ih];rw[abQ,w t (λ_ h=>h),aby]
def dV(L:List ba)(now:List ByteArray):List ba->List ba×List ByteArray
 | []=>(L,now)
 | h::hs=>if L.length<=200 then (if Tb.eZ L h=true then dV L now hs else dV (L++[h]) (now++[h.1]) hs)else (L,now)
def asks(r:Ax.aI)(ps:List ByteArray):Bool:=r.body.any λa=>Tb.eZ ps a.pred
def uY(zP:List ba)(first:Bool)(came:List ByteArray):List Ax.aI->List ba×List ByteArray->List ba×List ByteArray
 | [],x=>x
 | r::rs,x=>uY zP first came rs (if first||asks r came then dV x.1 x.2 (fI r.head zP r.body [])else x)
def tN(rs:List Ax.aI):Nat->List ba->Bool->List ByteArray->Option (List ba)
 | 0,_,_,_=>none
 | n+1,L,first,came=>if 200<L.length then none else if (uY L first came rs (L,[])).1.length=L.length then some L else tN rs n (uY L first came rs (L,[])).1 false (uY L first came rs (L,[])).2
theorem px:∀(hs L:List ba) (now:List ByteArray),∃t,(dV L now hs).1=L++t/\(∀f,f∈t->f∈hs)/\(L.Nodup->(L++t).Nodup)/\(dV L now hs).2=now++t.map Prod.fst/\((L++t).length<=200->∀f,f∈hs->f∈L++t)
 | [],L,now=>⟨[],by simp[dV],by simp,λh=>by simpa using h,by simp[dV],by simp⟩
 | h::hs,L,now=>by
  by_cases j:L.length<=200
  ·by_cases hm:Tb.eZ L h=true
   ·have u:=Tb.bt.1 hm;obtain⟨t,a,b,c,d,e⟩:=px hs L now;refine⟨t,by simp[dV,j,hm,a],λf i=>by simp[b f i],c,by simp[dV,j,hm,d],λq f i=>?_⟩;rcases BY.1 i with rfl | i
    ·simp[u]
    ·exact e q f i
   ·have u:¬h∈L:=λe=>hm (Tb.bt.2 e);obtain⟨t,a,b,c,d,e⟩:=px hs (L++[h]) (now++[h.1]);have y:L++h::t=L++[h]++t:=by simp
    refine⟨h::t,by simp[dV,j,hm,a], ?_, ?_,by simp[dV,j,hm,d], ?_⟩
    ·intro f i;rcases BY.1 i with rfl | i
     ·simp
     ·simp[b f i]
    ·intro A;rw[y];refine c ?_;rw[adn];exact⟨A,by simp,λE x D w B=>by simp at w;rw[B,w]at x;exact u x⟩
    ·rw[y];intro q f i;rcases BY.1 i with rfl | i
     ·simp
     ·exact e q f i
  ·refine⟨[],by simp[dV,j],by simp,λh=>by simpa using h,by simp[dV,j],λq=>?_⟩;simp at q;omega
theorem zF(zP first came):∀(rs:List Ax.aI) (x:List ba×List ByteArray),∃t,(uY zP first came rs x).1=x.1++t/\(∀f,f∈t->∃r,r∈rs/\f∈fI r.head zP r.body [])/\(x.1.Nodup->(x.1++t).Nodup)/\(uY zP first came rs x).2=x.2++t.map Prod.fst/\((x.1++t).length<=200->∀r,r∈rs->(first||asks r came)=true->∀f,f∈fI r.head zP r.body []->f∈x.1++t)
 | [],x=>⟨[],by simp[uY],by simp,λh=>by simpa using h,by simp[uY],by simp⟩
 | r::rs,x=>by
  by_cases u:(first||asks r came)=true
  ·obtain⟨A,F,b0,c0,E,D⟩:=px (fI r.head zP r.body []) x.1 x.2;obtain⟨t,a,b,c,d,e⟩:=zF zP first came rs (dV x.1 x.2 (fI r.head zP r.body []))
   rw[F]at a c e;rw[E]at d;have B:x.1++(A++t)=x.1++A++t:=by simp
   refine⟨A++t, ?_, ?_, ?_, ?_, ?_⟩
   ·rw[uY,aa3 u,a,B]
   ·intro f i;rcases ZD.1 i with i | i
    ·exact⟨r,by simp,b0 f i⟩
    ·obtain⟨q,j,h⟩:=b f i;exact⟨q,by simp[j],h⟩
   ·rw[B];exact λh=>c (c0 h)
   ·rw[uY,aa3 u,d];simp
   ·rw[B];intro w q j y f i;rcases BY.1 j with rfl | j
    ·exact acH _ (D (by simp at w ⊢;omega) f i)
    ·exact e w q j y f i
  ·obtain⟨t,a,b,c,d,e⟩:=zF zP first came rs x
   refine⟨t,by rw[uY,aaD u,a], ?_,c,by rw[uY,aaD u,d], ?_⟩
   ·intro f i;obtain⟨q,j,h⟩:=b f i;exact⟨q,by simp[j],h⟩
   ·intro w q j y f i;rcases BY.1 j with rfl | j
    ·exact absurd y u
    ·exact e w q j y f i
end Rf
